import PyProof.Rows.All
import Wide.All
import OpenK.AllK
import Wide.FinOn
import HandS.ForMost
import HandS.Wide
import HandS.IsInst
import HandS.Style
import HandS.CallSlots
import HandS.TupAny
import HandS.Zip
import HandS.SetKeys
import HandS.More
import HandS.Deep
import HandS.CallLocal
import HandS.SetBool
import HandS.Strs
import KE.KDictPairs
import HandS.Text
import HandS.RaiseMore
import HandS.TupLe
import HandS.Small
import HandS.Star
import HandS.FStr
import HandS.Words
import HandS.Defaults
import HandS.Head0
import HandS.Head1
import HandS.Head2
import HandS.HeadEnd
import HandS.HeadHook1
import HandS.HeadHook2
import HandS.HeadHook3
import HandS.HeadHook4
import KE.KEqSeq
import HandS.SetTxt0
import PySem.Challenge.RW_strangemill_k26_whole_marks
set_option Elab.async false
set_option maxRecDepth 100000
set_option maxHeartbeats 4000001
/-! A small language of my own (ir): what a def's body computes over plain data and a store of lists and dicts. -/
namespace Ir
open PySem

/-- a value: plain data (no list of its own), an object of the store, a def of the text -/
inductive D where
  | p (d : PyData)
  | ref (i : Nat)
  | fn (i : Nat)
inductive MO where
  | lst (ds : List D)
  | dic (kvs : List (Sum Int Str × D))
abbrev Sto := List MO
structure Ex where
  cls : Nat
  args : List PyData
inductive Out (α : Type) where
  | val (a : α) (S : Sto)
  | exc (e : Ex) (S : Sto)
  | bad
def M (α : Type) := Sto → Out α
def M.pure {α : Type} (a : α) : M α := fun S => .val a S
def M.bind {α β : Type} (m : M α) (f : α → M β) : M β := fun S => match m S with
  | .val a S' => f a S'
  | .exc e S' => .exc e S'
  | .bad => .bad
def M.bad {α : Type} : M α := fun _ => .bad
def M.opt {α : Type} (o : Option α) : M α := fun S => match o with
  | some a => .val a S
  | none => .bad
def wp {α : Type} (o : Out α) (ok : α → Sto → Prop) (ex : Ex → Sto → Prop) : Prop := match o with
  | .val a S => ok a S
  | .exc e S => ex e S
  | .bad => False
theorem wp_bind {α β : Type} {m : M α} {f : α → M β} {S : Sto} {ok : β → Sto → Prop} {ex : Ex → Sto → Prop} (h : wp (M.bind m f S) ok ex) : wp (m S) (fun a S' => wp (f a S') ok ex) ex := by
  unfold M.bind at h
  cases e : m S with
  | val a S' => rw [e] at h; exact h
  | exc x S' => rw [e] at h; exact h
  | bad => rw [e] at h; exact h
theorem wp_mono {α : Type} {o : Out α} {ok ok' : α → Sto → Prop} {ex ex' : Ex → Sto → Prop} (h : wp o ok ex) (h1 : ∀ a S, ok a S → ok' a S) (h2 : ∀ e S, ex e S → ex' e S) : wp o ok' ex' := by
  cases o with
  | val a S => exact h1 a S h
  | exc e S => exact h2 e S h
  | bad => exact h

/-! ### references: below n -/
def rb (n : Nat) : D → Bool
  | .ref j => decide (j < n)
  | _ => true
def rbO (n : Nat) : MO → Bool
  | .lst ds => ds.all (rb n)
  | .dic kvs => kvs.all fun kv => rb n kv.2

inductive BOp where
  | add | sub | mul | fdiv | mod | pow
inductive COp where
  | eq | ne | lt | le | gt | ge | in_ | notin | is_ | isnot
inductive Ty where
  | int | bool | str | tuple
inductive TxO where
  | lower | upper | strip
mutual
inductive E where
  | var (i : Nat)
  | cst (d : D)
  | bin (o : BOp) (a b : E)
  | cmp (o : COp) (a b : E)
  | chain (o o' : COp) (a b c : E)
  | and (a b : E)
  | or (a b : E)
  | not (a : E)
  | ifx (t a b : E)
  | neg (a : E)
  | call (f : Nat) (as : Es)
  | callv (i : Nat) (as : Es)
  | tup (as : Es)
  | lst (l : L)
  | idx (a b : E)
  | idxL (l : L) (b : E)
  | slice (a : E) (lo hi : Option Int)
  | slx (a : E) (lo hi : Bd)
  | txt (o : TxO) (a : E)
  | strOf (a : E)
  | join (a b : E)
  | extend (a e : E)
  | len (a : E)
  | lenset (a : E)
  | lensc (it : Wi) (tg : List Nat) (one : Bool) (elt : E)
  | isi (a : E) (t : Ty)
  | toInt (a : E)
  | all (l : L)
  | any (l : L)
  | tupOf (a : E)
  | dictOf (a : E)
  | dget (a k : E)
  | wget (kvs : List (Str × PyData)) (k : E)
  | popAt (a k : E)
  | append (a e : E)
  | eqLL (neg : Bool) (l l2 : L)
  | eqL (neg : Bool) (a : E) (l : L)
  | op1 (f : Sto → D → Option D) (a : E)
  | op2 (f : Sto → D → D → Option D) (a b : E)
  | dlit (ks : List Str) (as : Es)
  | dget3 (a k z : E)
  | slp (a : E) (lo hi : Bd)
  | fstr (as : Es)
inductive Bd where
  | no
  | at_ (e : E)
inductive Es where
  | nil
  | cons (e : E) (es : Es)
  | star (e : E) (es : Es)
inductive L where
  | disp (es : Es)
  | lc (it : Wi) (tg : List Nat) (one : Bool) (elt : E)
  | of (e : E)
  | split (e : E) (sep : Str)
  | cat (a b : E)
  | cut (a : E) (lo hi : Bd)
  | lcf (it : Wi) (tg : List Nat) (one : Bool) (c elt : E)
  | op1 (f : Sto → D → Option (List D)) (a : E)
  | op2 (f : Sto → D → D → Option (List D)) (a b : E)
  | lc2 (it : Wi) (tg : List Nat) (one : Bool) (e2 : E) (tg2 : List Nat) (one2 : Bool) (elt : E)
inductive Wi where
  | tup (e : E)
  | lst (e : E)
  | str (e : E)
  | rng (e : E)
  | zip (a b : E)
end
mutual
inductive St where
  | asg (i : Nat) (e : E)
  | unp (is : List Nat) (e : E)
  | setI (o i v : E)
  | expr (e : E)
  | ite (t : E) (a b : Ss)
  | for_ (it : Wi) (tg : List Nat) (one : Bool) (body : Ss)
  | ret (e : E)
inductive Ss where
  | nil
  | cons (s : St) (r : Ss)
end

/-! ### operations over values -/
def valD (kvs : List (Sum Int Str × D)) (k : Sum Int Str) : Option D := (kvs.find? fun kv => decide (kv.1 = k)).map (·.2)
def putD (kvs : List (Sum Int Str × D)) (k : Sum Int Str) (v : D) : List (Sum Int Str × D) :=
  if (kvs.any fun kv => decide (kv.1 = k)) = true then kvs.map fun kv => if kv.1 = k then (kv.1, v) else kv else kvs ++ [(k, v)]
def keyOf : D → Option (Sum Int Str)
  | .p (.int i) => some (.inl i)
  | .p (.str s) => some (.inr s)
  | _ => none
def sameScal : PyData → PyData → Bool
  | .none, .none => true | .none, .int _ => true | .int _, .none => true | .none, .bool _ => true | .bool _, .none => true | .none, .str _ => true | .str _, .none => true
  | .int _, .int _ => true | .bool _, .bool _ => true | .str _, .str _ => true
  | .int _, .str _ => true | .str _, .int _ => true | .bool _, .str _ => true | .str _, .bool _ => true
  | _, _ => false
def eqD : D → D → Option Bool
  | .p a, .p b => if sameScal a b then some (PyData.eqv a b) else if SeqAt.shaped a && SeqAt.shaped b then some (PyData.eqv a b) else none
  | _, _ => none
def bop : BOp → D → D → Option D
  | .add, .p (.int i), .p (.int j) => some (.p (.int (i + j)))
  | .add, .p (.str x), .p (.str y) => if x.length + y.length ≤ sizeLine then some (.p (.str (x ++ y))) else none
  | .add, .p (.tuple x), .p (.tuple y) => if x.length + y.length ≤ sizeLine then some (.p (.tuple (x ++ y))) else none
  | .sub, .p (.int i), .p (.int j) => some (.p (.int (i - j)))
  | .mul, .p (.int i), .p (.int j) => if (-(2 ^ 64) < i ∧ i < 2 ^ 64) ∨ (-(2 ^ 64) < j ∧ j < 2 ^ 64) then some (.p (.int (i * j))) else none
  | .fdiv, .p (.int i), .p (.int j) => if 0 < j ∧ j.natAbs.log2 < 9000 then some (.p (.int (i / j))) else none
  | .mod, .p (.int i), .p (.int j) => if 0 < j then some (.p (.int (i % j))) else none
  | .pow, .p (.int i), .p (.int j) => if 0 ≤ j ∧ j ≤ 1000000 ∧ i.natAbs < 2 ^ 64 then some (.p (.int (i ^ j.toNat))) else none
  | _, _, _ => none
def flatP : PyData → Bool
  | .none => true | .bool _ => true | .int _ => true | .str _ => true
  | _ => false
def inStr (x y : Str) : Bool := !(Builtin.Str.occurrences y x 0 y.length 1).isEmpty
def plainOf : List D → Option (List PyData)
  | [] => some []
  | .p d :: r => (plainOf r).map (d :: ·)
  | _ :: _ => none
def inD (S : Sto) : D → D → Option Bool
  | .p (.str x), .p (.str y) => some (inStr x y)
  | .p x, .p (.tuple ys) => if flatP x && ys.all flatP then some (ys.any fun y => PyData.eqv y x) else none
  | d, .ref j => match S[j]? with
    | some (.dic kvs) => (keyOf d).map fun k => (valD kvs k).isSome
    | some (.lst es) => (match d, plainOf es with
      | .p x, some ps => if SeqAt.shaped x = true ∧ SeqAt.shaped (.list ps) = true then some (ps.any fun y => PyData.eqv y x) else none
      | _, _ => none)
    | _ => none
  | _, _ => none
def isNonP : PyData → Bool
  | .none => true
  | _ => false
def cop (S : Sto) : COp → D → D → Option Bool
  | .eq, a, b => eqD a b
  | .ne, a, b => (eqD a b).map (!·)
  | .lt, .p (.int i), .p (.int j) => some (decide (i < j))
  | .le, .p (.int i), .p (.int j) => some (decide (i ≤ j))
  | .gt, .p (.int i), .p (.int j) => some (decide (j < i))
  | .ge, .p (.int i), .p (.int j) => some (decide (j ≤ i))
  | .in_, a, b => inD S a b
  | .notin, a, b => (inD S a b).map (!·)
  | .is_, .p (.bool a), .p (.bool b) => some (decide (a = b))
  | .isnot, .p (.bool a), .p (.bool b) => some (!decide (a = b))
  | .is_, .p a, .p .none => some (isNonP a)
  | .isnot, .p a, .p .none => some (!isNonP a)
  | _, _, _ => none
def getI (S : Sto) : D → D → Option D
  | .p (.tuple ds), .p (.int i) => (L2.atI ds i).map .p
  | .p (.str z), .p (.int i) => if z.length ≤ sizeLine then (L2.atI z.cps.toList i).map fun c => .p (.str ⟨#[c]⟩) else none
  | .ref j, .p (.int i) => match S[j]? with
    | some (.lst ds) => L2.atI ds i
    | _ => none
  | _, _ => none
def cutP (xs : List PyData) (lo hi : Option Int) : List PyData := (xs.drop (HT.sIx xs.length 0 lo)).take (HT.sIx xs.length xs.length hi - HT.sIx xs.length 0 lo)
def sliceD : D → Option Int → Option Int → Option D
  | .p (.tuple ds), lo, hi => some (.p (.tuple (cutP ds lo hi)))
  | .p (.str z), lo, hi => if z.length ≤ sizeLine then some (.p (.str (L2.cutS z lo hi))) else none
  | _, _, _ => none
def lenD (S : Sto) : D → Option Int
  | .p (.tuple ds) => some ds.length
  | .p (.str z) => if z.length ≤ sizeLine then some z.length else none
  | .ref j => match S[j]? with
    | some (.lst ds) => some ds.length
    | _ => none
  | _ => none
def isiD : D → Ty → Option Bool
  | .p .none, _ => some false
  | .p (.bool _), .int => some true
  | .p (.bool _), .bool => some true
  | .p (.bool _), _ => some false
  | .p (.int _), .int => some true
  | .p (.int _), _ => some false
  | .p (.str _), .str => some true
  | .p (.str _), _ => some false
  | .p (.tuple _), .tuple => some true
  | .p (.tuple _), _ => some false
  | _, _ => none
def boolsOf : List D → Option (List Bool)
  | [] => some []
  | .p (.bool b) :: r => (boolsOf r).map (b :: ·)
  | _ :: _ => none
def strsOf : List PyData → Option (List Str)
  | [] => some []
  | .str z :: r => (strsOf r).map (z :: ·)
  | _ :: _ => none
def pairsOf : List PyData → Option (List (Sum Int Str × D))
  | [] => some []
  | .tuple [k, v] :: r => (keyOf (.p k)).bind fun k => (pairsOf r).map ((k, .p v) :: ·)
  | _ :: _ => none
/-- how many unlike texts -/
def unlike : List Str → List Str
  | [] => []
  | x :: r => if x ∈ r then unlike r else x :: unlike r
def mergeD (more : List (Sum Int Str × D)) : List (Sum Int Str × D) := more.foldl (fun acc kv => putD acc kv.1 kv.2) []
def asBool : D → Option Bool
  | .p (.bool b) => some b
  | _ => none
def asInt : D → Option Int
  | .p (.int i) => some i
  | _ => none
def intOf : D → Option Int
  | .p (.int i) => some i
  | .p (.bool b) => some (if b then 1 else 0)
  | _ => none
/-- a list of the store, whole -/
def lstAt (S : Sto) : D → Option (List D)
  | .ref j => match S[j]? with
    | some (.lst ds) => some ds
    | _ => none
  | _ => none
/-- what a loop walks: a fixed row of values, or the list at j as it stands -/
inductive Src where
  | fix (ds : List D)
  | dyn (j : Nat)
def Src.at (s : Src) (i : Nat) (S : Sto) : Option (Option D) := match s with
  | .fix ds => some ds[i]?
  | .dyn j => match S[j]? with
    | some (.lst ds) => some ds[i]?
    | _ => none
def Src.size (s : Src) (S : Sto) : Option Nat := match s with
  | .fix ds => some ds.length
  | .dyn j => match S[j]? with
    | some (.lst ds) => some ds.length
    | _ => none
def lensetD : D → Option D
  | .p (.tuple ds) => (strsOf ds).bind fun zs => if zs.length ≤ 1 then some (.p (.int (unlike zs).length)) else none
  | _ => none
def strD : D → Option D
  | .p (.str z) => some (.p (.str z))
  | _ => none
def lensetLD (ds : List D) : Option D := (plainOf ds).bind fun ps => (strsOf ps).bind fun zs => if zs.length ≤ 1000 then some (.p (.int (unlike zs).length)) else none
def tupD (S : Sto) (x : D) : Option D := (lstAt S x).bind fun ds => (plainOf ds).map fun ps => .p (.tuple ps)
def dictD : D → Option (List (Sum Int Str × D))
  | .p (.tuple ds) => (pairsOf ds).bind fun kvs => if kvs.length ≤ 1000 then some (mergeD kvs) else none
  | _ => none
def dicAt (S : Sto) : D → Option (List (Sum Int Str × D))
  | .ref j => match S[j]? with
    | some (.dic kvs) => some kvs
    | _ => none
  | _ => none
def dgetD (S : Sto) (x y : D) : Option D := (dicAt S x).bind fun kvs => (keyOf y).map fun k => (valD kvs k).getD (.p .none)
def wgetD (kvs : List (Str × PyData)) : D → Option D
  | .p (.str z) => some (.p ((kvs.lookup z).getD .none))
  | _ => none
def popD : D → D → M D
  | .ref j, .p (.int i) => fun S => if i = 0 then (match S[j]? with
    | some (.lst (d :: ds)) => .val d (S.set j (.lst ds))
    | _ => .bad) else .bad
  | _, _ => M.bad
def appD : D → D → M D
  | .ref j, y => fun S => match S[j]? with
    | some (.lst ds) => if rb j y = true ∧ ds.length < 100000 then .val (.p .none) (S.set j (.lst (ds ++ [y]))) else .bad
    | _ => .bad
  | _, _ => M.bad
def setD : D → D → D → M Unit
  | .ref j, .p (.int k), d => fun S => match S[j]? with
    | some (.lst ds) => match L2.ixN ds.length k with
      | some n => if rb j d = true then .val () (S.set j (.lst (ds.set n d))) else .bad
      | none => .bad
    | some (.dic kvs) => if rb j d = true ∧ kvs.length ≤ 1000 then .val () (S.set j (.dic (putD kvs (.inl k) d))) else .bad
    | _ => .bad
  | .ref j, .p (.str k), d => fun S => match S[j]? with
    | some (.dic kvs) => if rb j d = true ∧ kvs.length ≤ 1000 then .val () (S.set j (.dic (putD kvs (.inr k) d))) else .bad
    | _ => .bad
  | _, _, _ => M.bad
def txO : TxO → Str → Str
  | .lower, z => Txt.lower z
  | .upper, z => Txt.upper z
  | .strip, z => Txt.strip z
def txtD (o : TxO) : D → Option D
  | .p (.str z) => if z.length ≤ 5000000 then some (.p (.str (txO o z))) else none
  | _ => none
def strOfD : D → Option D
  | .p (.int i) => if i.natAbs.log2 < 1920 then some (.p (.str (toString i))) else none
  | .p (.str z) => some (.p (.str z))
  | _ => none
/-- the parts of an f-string -/
def fpart : D → Option Str
  | .p (.int i) => if i.natAbs.log2 < 1920 then some (toString i) else none
  | .p (.str z) => if z.length ≤ sizeLine then some z else none
  | _ => none
def fstep (acc : Str) (d : D) : Option Str := (fpart d).bind fun z => if (acc ++ z).length ≤ sizeLine then some (acc ++ z) else none
/-- true or false of a value -/
def truthD (S : Sto) : D → Option D
  | .p .none => some (.p (.bool false))
  | .p (.bool b) => some (.p (.bool b))
  | .p (.int i) => some (.p (.bool (!decide (i = 0))))
  | .p (.str z) => if z.length ≤ sizeLine then some (.p (.bool (!decide (z.length = 0)))) else none
  | .p (.tuple ds) => some (.p (.bool (!ds.isEmpty)))
  | .ref j => match S[j]? with
    | some (.lst ds) => some (.p (.bool (!ds.isEmpty)))
    | some (.dic kvs) => some (.p (.bool (!kvs.isEmpty)))
    | none => none
  | _ => none
def extD : D → D → M D
  | .ref j, y => fun S => match S[j]?, lstAt S y with
    | some (.lst ds), some es => if es.all (rb j) = true ∧ ds.length + es.length ≤ 100000 then .val (.p .none) (S.set j (.lst (ds ++ es))) else .bad
    | _, _ => .bad
  | _, _ => M.bad
def eqLD (neg : Bool) (ds es : List D) : Option D := (plainOf ds).bind fun ps => (plainOf es).bind fun qs =>
  if SeqAt.shaped (.list ps) = true ∧ SeqAt.shaped (.list qs) = true then some (.p (.bool (if neg then !PyData.eqvAll ps qs else PyData.eqvAll ps qs))) else none
def ofD (S : Sto) : D → Option (List D)
  | .ref j => lstAt S (.ref j)
  | .p (.tuple ds) => some (ds.map .p)
  | .p (.list ds) => some (ds.map .p)
  | _ => none
def joinD (S : Sto) : D → D → Option D
  | .p (.str a), y => (ofD S y).bind fun ds => (plainOf ds).bind fun ps => (strsOf ps).bind fun zs => if (zs.map (·.length)).sum + zs.length * a.length ≤ 16777216 then some (.p (.str (Txt.join a zs))) else none
  | _, _ => none
def splitD (sep : Str) : D → Option (List D)
  | .p (.str z) => if sep.length ≠ 0 ∧ z.length ≤ 100000 then some ((Txt.split z sep).map fun t => .p (.str t)) else none
  | _ => none
def catD (S : Sto) (x y : D) : Option (List D) := (lstAt S x).bind fun ds => (lstAt S y).bind fun es => if ds.length + es.length ≤ 100000 then some (ds ++ es) else none
def cutD (xs : List D) (lo hi : Option Int) : List D := (xs.drop (HT.sIx xs.length 0 lo)).take (HT.sIx xs.length xs.length hi - HT.sIx xs.length 0 lo)
def cutLD (S : Sto) (x : D) (lo hi : Option Int) : Option (List D) := (lstAt S x).map fun ds => cutD ds lo hi
def dlitD (ks : List Str) (ds : List D) : Option (List (Sum Int Str × D)) := if ks.length = ds.length ∧ ks.length ≤ 15 ∧ ks.length ≠ 0 then some (mergeD ((ks.map Sum.inr).zip ds)) else none
def dget3D (S : Sto) (x y w : D) : Option D := (dicAt S x).bind fun kvs => (keyOf y).map fun k => (valD kvs k).getD w
def srcTup : D → Option Src
  | .p (.tuple ds) => some (.fix (ds.map .p))
  | _ => none
def srcLst (S : Sto) : D → Option Src
  | .ref j => match S[j]? with
    | some (.lst _) => some (.dyn j)
    | _ => none
  | _ => none
def srcStr : D → Option Src
  | .p (.str z) => some (.fix (z.cps.toList.map fun c => .p (.str ⟨#[c]⟩)))
  | _ => none
def srcRng : D → Option Src
  | .p (.int n) => if n ≤ 100000 ∧ -100000 ≤ n then some (.fix ((List.range n.toNat).map fun (i : Nat) => .p (.int (i : Int)))) else none
  | _ => none
def srcZip : D → D → Option Src
  | .p (.tuple xs), .p (.tuple ys) => some (.fix ((xs.zip ys).map fun q => .p (.tuple [q.1, q.2])))
  | _, _ => none
abbrev Sl := List (Option D)
def wipeD (ρ : Sl) : List Nat → Sl
  | [] => ρ
  | v :: vs => (wipeD ρ vs).set v none
def setAll : List Nat → List D → Sl → Option Sl
  | [], [], ρ => some ρ
  | i :: is, d :: ds, ρ => setAll is ds (ρ.set i (some d))
  | _, _, _ => none
/-- a target: one name, or names of a tuple -/
def tgt (tg : List Nat) (one : Bool) (d : D) (ρ : Sl) : Option Sl :=
  if one then (match tg with | [i] => some (ρ.set i (some d)) | _ => none)
  else match d with
    | .p (.tuple ds) => if ds.length = tg.length then setAll tg (ds.map .p) ρ else none
    | _ => none
def lcGo (src : Src) (body : D → M D) : Nat → Nat → List D → M (List D)
  | 0, i, acc => fun S => match src.at i S with
    | some none => .val acc S
    | _ => .bad
  | n + 1, i, acc => fun S => match src.at i S with
    | some none => .val acc S
    | some (some d) => M.bind (body d) (fun e => lcGo src body n (i + 1) (acc ++ [e])) S
    | none => .bad
/-- the same, some left out -/
def lcGoF (src : Src) (body : D → M (Option D)) : Nat → Nat → List D → M (List D)
  | 0, i, acc => fun S => match src.at i S with
    | some none => .val acc S
    | _ => .bad
  | n + 1, i, acc => fun S => match src.at i S with
    | some none => .val acc S
    | some (some d) => M.bind (body d) (fun e => lcGoF src body n (i + 1) (match e with | some e => acc ++ [e] | none => acc)) S
    | none => .bad
/-- one comprehension within another: the second goes on with what is there -/
def lc2Go (src : Src) (body : D → List D → M (List D)) : Nat → Nat → List D → M (List D)
  | 0, i, acc => fun S => match src.at i S with
    | some none => .val acc S
    | _ => .bad
  | n + 1, i, acc => fun S => match src.at i S with
    | some none => .val acc S
    | some (some d) => M.bind (body d acc) (fun acc' => lc2Go src body n (i + 1) acc') S
    | none => .bad
/-- no exception may leave -/
def M.calm {α : Type} (m : M α) : M α := fun S => match m S with
  | .val a S' => .val a S'
  | _ => .bad
inductive Ctl where
  | next | brk | cont
  | ret (d : D)
def forGo (src : Src) (body : D → Sl → M (Ctl × Sl)) : Nat → Nat → Sl → M (Ctl × Sl)
  | 0, i, ρ => fun S => match src.at i S with
    | some none => .val (.next, ρ) S
    | _ => .bad
  | n + 1, i, ρ => fun S => match src.at i S with
    | some none => .val (.next, ρ) S
    | some (some d) => M.bind (body d ρ) (fun c => match c with
      | (.next, ρ') => forGo src body n (i + 1) ρ'
      | (.cont, ρ') => forGo src body n (i + 1) ρ'
      | (.brk, ρ') => M.pure (.next, ρ')
      | (.ret d, ρ') => M.pure (.ret d, ρ')) S
    | none => .bad
def alloc (o : MO) : M D := fun S => if rbO S.length o then .val (.ref S.length) (S ++ [o]) else .bad

section
variable (cal : Nat → List D → M D)
mutual
def evE : E → Sl → M D
  | .var i, ρ => M.opt (match ρ[i]? with | some (some d) => some d | _ => none)
  | .cst d, _ => M.pure d
  | .bin o a b, ρ => M.bind (evE a ρ) fun x => M.bind (evE b ρ) fun y => M.opt (bop o x y)
  | .cmp o a b, ρ => M.bind (evE a ρ) fun x => M.bind (evE b ρ) fun y => fun S => M.opt ((cop S o x y).map fun k => .p (.bool k)) S
  | .chain o o' a b c, ρ => M.bind (evE a ρ) fun x => M.bind (evE b ρ) fun y => M.bind (fun S => M.opt (cop S o x y) S) fun k =>
      if k = true then M.bind (evE c ρ) fun z => fun S => M.opt ((cop S o' y z).map fun k => .p (.bool k)) S else M.pure (.p (.bool false))
  | .and a b, ρ => M.bind (evE a ρ) fun x => M.bind (M.opt (asBool x)) fun k => if k = true then evE b ρ else M.pure (.p (.bool false))
  | .or a b, ρ => M.bind (evE a ρ) fun x => M.bind (M.opt (asBool x)) fun k => if k = true then M.pure (.p (.bool true)) else evE b ρ
  | .not a, ρ => M.bind (evE a ρ) fun x => M.bind (M.opt (asBool x)) fun k => M.pure (.p (.bool (!k)))
  | .ifx t a b, ρ => M.bind (evE t ρ) fun x => M.bind (M.opt (asBool x)) fun k => if k = true then evE a ρ else evE b ρ
  | .neg a, ρ => M.bind (evE a ρ) fun x => M.opt ((asInt x).map fun i => .p (.int (-i)))
  | .call f as, ρ => M.bind (evEs as ρ) fun ds => cal f ds
  | .callv i as, ρ => match ρ[i]? with
    | some (some (.fn f)) => M.bind (evEs as ρ) fun ds => cal f ds
    | _ => M.bad
  | .tup as, ρ => M.bind (evEs as ρ) fun ds => M.opt (if ds.length ≤ sizeLine then (plainOf ds).map fun ps => .p (.tuple ps) else none)
  | .lst l, ρ => M.bind (evL l ρ) fun ds => alloc (.lst ds)
  | .idx a b, ρ => M.bind (evE a ρ) fun x => M.bind (evE b ρ) fun y => fun S => M.opt (getI S x y) S
  | .idxL l b, ρ => M.bind (evL l ρ) fun ds => M.bind (evE b ρ) fun y => M.opt ((asInt y).bind fun i => L2.atI ds i)
  | .slice a lo hi, ρ => M.bind (evE a ρ) fun x => M.opt (sliceD x lo hi)
  | .txt o a, ρ => M.bind (evE a ρ) fun x => M.opt (txtD o x)
  | .strOf a, ρ => M.bind (evE a ρ) fun x => M.opt (strOfD x)
  | .join a b, ρ => M.bind (evE a ρ) fun x => M.bind (M.opt (strD x)) fun _ => M.bind (evE b ρ) fun y => fun S => M.opt (joinD S x y) S
  | .extend a e, ρ => M.bind (evE a ρ) fun x => M.bind (fun S => M.opt (lstAt S x) S) fun _ => M.bind (evE e ρ) fun y => extD x y
  | .slx a lo hi, ρ => M.bind (evE a ρ) fun x => M.bind (evB lo ρ) fun l => M.bind (evB hi ρ) fun h => M.opt (sliceD x l h)
  | .len a, ρ => M.bind (evE a ρ) fun x => fun S => M.opt ((lenD S x).map fun n => .p (.int n)) S
  | .lenset a, ρ => M.bind (evE a ρ) fun x => M.opt (lensetD x)
  | .lensc it tg one elt, ρ => M.bind (evI it ρ) fun src => M.bind (fun S => match src.size S with
    | some n => if n ≤ 1000 then lcGo src (fun d => M.calm (M.bind (match tgt tg one d (wipeD ρ tg) with
        | some ρ' => evE elt ρ'
        | none => M.bad) fun x => M.opt (strD x))) n 0 [] S else .bad
    | none => .bad) fun ds => M.opt (lensetLD ds)
  | .isi a t, ρ => M.bind (evE a ρ) fun x => M.opt ((isiD x t).map fun k => .p (.bool k))
  | .toInt a, ρ => M.bind (evE a ρ) fun x => M.opt ((intOf x).map fun i => .p (.int i))
  | .all l, ρ => M.bind (evL l ρ) fun ds => M.opt ((boolsOf ds).map fun bs => .p (.bool (bs.all id)))
  | .any l, ρ => M.bind (evL l ρ) fun ds => M.opt ((boolsOf ds).map fun bs => .p (.bool (bs.any id)))
  | .tupOf a, ρ => M.bind (evE a ρ) fun x => fun S => M.opt (tupD S x) S
  | .dictOf a, ρ => M.bind (evE a ρ) fun x => M.bind (M.opt (dictD x)) fun kvs => alloc (.dic kvs)
  | .dget a k, ρ => M.bind (evE a ρ) fun x => M.bind (fun S => M.opt (dicAt S x) S) fun _ => M.bind (evE k ρ) fun y => fun S => M.opt (dgetD S x y) S
  | .wget kvs k, ρ => M.bind (evE k ρ) fun y => M.opt (wgetD kvs y)
  | .popAt a k, ρ => M.bind (evE a ρ) fun x => M.bind (fun S => M.opt (lstAt S x) S) fun _ => M.bind (evE k ρ) fun y => popD x y
  | .append a e, ρ => M.bind (evE a ρ) fun x => M.bind (fun S => M.opt (lstAt S x) S) fun _ => M.bind (evE e ρ) fun y => appD x y
  | .eqLL neg l l2, ρ => M.bind (evL l ρ) fun ds => M.bind (evL l2 ρ) fun es => M.opt (eqLD neg ds es)
  | .eqL neg a l, ρ => M.bind (evE a ρ) fun x => M.bind (evL l ρ) fun es => fun S => M.opt ((lstAt S x).bind fun ds => eqLD neg ds es) S
  | .op1 f a, ρ => M.bind (evE a ρ) fun x => fun S => M.opt (f S x) S
  | .op2 f a b, ρ => M.bind (evE a ρ) fun x => M.bind (evE b ρ) fun y => fun S => M.opt (f S x y) S
  | .fstr as, ρ => M.bind (evF as Str.empty ρ) fun z => M.pure (.p (.str z))
  | .dlit ks as, ρ => M.bind (evEs as ρ) fun ds => M.bind (M.opt (dlitD ks ds)) fun kvs => alloc (.dic kvs)
  | .dget3 a k z, ρ => M.bind (evE a ρ) fun x => M.bind (fun S => M.opt (dicAt S x) S) fun _ => M.bind (evE k ρ) fun y => M.bind (evE z ρ) fun w => fun S => M.opt (dget3D S x y w) S
  | .slp a lo hi, ρ => M.bind (evE a ρ) fun x => M.bind (evB lo ρ) fun l => M.bind (evB hi ρ) fun h => match x with
    | .ref j => M.bind (fun S => M.opt (cutLD S (.ref j) l h) S) fun ds => alloc (.lst ds)
    | x => M.opt (sliceD x l h)
def evB : Bd → Sl → M (Option Int)
  | .no, _ => M.pure none
  | .at_ e, ρ => M.bind (evE e ρ) fun x => M.opt ((asInt x).map some)
def evF : Es → Str → Sl → M Str
  | .nil, acc, _ => M.pure acc
  | .cons e es, acc, ρ => M.bind (evE e ρ) fun d => M.bind (M.opt (fstep acc d)) fun acc' => evF es acc' ρ
  | .star _ _, _, _ => M.bad
def evEs : Es → Sl → M (List D)
  | .nil, _ => M.pure []
  | .cons e es, ρ => M.bind (evE e ρ) fun d => M.bind (evEs es ρ) fun ds => M.pure (d :: ds)
  | .star e es, ρ => M.bind (evE e ρ) fun x => M.bind (fun S => M.opt (ofD S x) S) fun xs => M.bind (evEs es ρ) fun ds => M.pure (xs ++ ds)
/-- a list that is made on the way and that nothing keeps -/
def evL : L → Sl → M (List D)
  | .disp es, ρ => M.bind (evEs es ρ) fun ds => M.opt (if ds.length ≤ 100000 then some ds else none)
  | .lc it tg one elt, ρ => M.bind (evI it ρ) fun src => fun S => match src.size S with
    | some n => if n ≤ 100000 then lcGo src (fun d => M.calm (match tgt tg one d (wipeD ρ tg) with
        | some ρ' => evE elt ρ'
        | none => M.bad)) n 0 [] S else .bad
    | none => .bad
  | .lcf it tg one c elt, ρ => M.bind (evI it ρ) fun src => fun S => match src.size S with
    | some n => if n ≤ 100000 then lcGoF src (fun d => M.calm (match tgt tg one d (wipeD ρ tg) with
        | some ρ' => M.bind (evE c ρ') fun x => M.bind (M.opt (asBool x)) fun k => if k = true then M.bind (evE elt ρ') fun z => M.pure (some z) else M.pure none
        | none => M.bad)) n 0 [] S else .bad
    | none => .bad
  | .lc2 it tg one e2 tg2 one2 elt, ρ => M.bind (evI it ρ) fun src => fun S => match src.size S with
    | some n => if n ≤ 100000 then lc2Go src (fun d acc => M.calm (match tgt tg one d (wipeD ρ (tg ++ tg2)) with
        | some ρ' => M.bind (evE e2 ρ') fun x => match x with
          | .p (.tuple ds) => if acc.length + ds.length ≤ 100000 then lcGo (.fix (ds.map .p)) (fun d => match tgt tg2 one2 d (wipeD ρ' tg2) with
            | some ρ'' => evE elt ρ''
            | none => M.bad) ds.length 0 acc else M.bad
          | _ => M.bad
        | none => M.bad)) n 0 [] S else .bad
    | none => .bad
  | .of e, ρ => M.bind (evE e ρ) fun x => fun S => M.opt (ofD S x) S
  | .split e sep, ρ => M.bind (evE e ρ) fun x => M.opt (splitD sep x)
  | .cat a b, ρ => M.bind (evE a ρ) fun x => M.bind (evE b ρ) fun y => fun S => M.opt (catD S x y) S
  | .cut a lo hi, ρ => M.bind (evE a ρ) fun x => M.bind (evB lo ρ) fun l => M.bind (evB hi ρ) fun h => fun S => M.opt (cutLD S x l h) S
  | .op1 f a, ρ => M.bind (evE a ρ) fun x => fun S => M.opt (f S x) S
  | .op2 f a b, ρ => M.bind (evE a ρ) fun x => M.bind (evE b ρ) fun y => fun S => M.opt (f S x y) S
def evI : Wi → Sl → M Src
  | .tup e, ρ => M.bind (evE e ρ) fun x => M.opt (srcTup x)
  | .lst e, ρ => M.bind (evE e ρ) fun x => fun S => M.opt (srcLst S x) S
  | .str e, ρ => M.bind (evE e ρ) fun x => M.opt (srcStr x)
  | .rng e, ρ => M.bind (evE e ρ) fun x => M.opt (srcRng x)
  | .zip a b, ρ => M.bind (evE a ρ) fun x => M.bind (evE b ρ) fun y => M.opt (srcZip x y)
end
mutual
def exS : St → Sl → M (Ctl × Sl)
  | .asg i e, ρ => M.bind (evE cal e ρ) fun d => M.pure (.next, ρ.set i (some d))
  | .unp is e, ρ => M.bind (evE cal e ρ) fun d => M.bind (M.opt (tgt is false d ρ)) fun ρ' => M.pure (.next, ρ')
  | .setI o i v, ρ => M.bind (evE cal v ρ) fun d => M.bind (evE cal o ρ) fun x => M.bind (evE cal i ρ) fun y => M.bind (setD x y d) fun _ => M.pure (.next, ρ)
  | .expr e, ρ => M.bind (evE cal e ρ) fun _ => M.pure (.next, ρ)
  | .ite t a b, ρ => M.bind (evE cal t ρ) fun x => M.bind (M.opt (asBool x)) fun k => if k = true then exSs a ρ else exSs b ρ
  | .for_ it tg one body, ρ => M.bind (evI cal it ρ) fun src => fun S => match src.size S with
    | some n => forGo src (fun d ρ' => match tgt tg one d ρ' with
        | some ρ'' => exSs body ρ''
        | none => M.bad) n 0 ρ S
    | none => .bad
  | .ret e, ρ => M.bind (evE cal e ρ) fun d => M.pure (.ret d, ρ)
def exSs : Ss → Sl → M (Ctl × Sl)
  | .nil, ρ => M.pure (.next, ρ)
  | .cons s r, ρ => M.bind (exS s ρ) fun c => match c with
    | (.next, ρ') => exSs r ρ'
    | c => M.pure c
end
end
/-- a def: how many parameters, how many names, its body -/
structure Fn where
  ar : Nat
  sz : Nat
  body : Ss
/-- what a call leaves behind: the objects that it made go, but what it hands back -/
def fix (n : Nat) (d : D) (S : Sto) : Out D := match d with
  | .ref j => if j < n then .val d (S.take n) else match S[j]? with
    | some o => if rbO n o then .val (.ref n) (S.take n ++ [o]) else .val d S
    | none => .bad
  | _ => .val d (S.take n)
def callF (cal : Nat → List D → M D) (f : Fn) (ds : List D) : M D := fun S =>
  if ds.length = f.ar then match exSs cal f.body (ds.map some ++ List.replicate (f.sz - f.ar) none) S with
    | .val (.ret d, _) S' => fix S.length d S'
    | .val (.next, _) S' => fix S.length (.p .none) S'
    | _ => .bad
  else .bad
def calK (fs : Nat → Option Fn) : Nat → Nat → List D → M D
  | 0 => fun _ _ _ => .bad
  | k + 1 => fun f ds => match fs f with
    | some g => callF (calK fs k) g ds
    | none => M.bad
end Ir
set_option Elab.async false
set_option maxRecDepth 100000
set_option maxHeartbeats 4000001
/-! How the values and the store stand in the layer's heap; readings by a run of the small language. -/
namespace Ir
open PySem L2 PySem.Spec PyProof.Rows

/-- a tuple whose object is known to have no dict of its own -/
def Ht (K : PySem.W.Frag) (H : Hp) (a : Addr) (xs : List V) : Prop := (∃ o : Obj, H a = some (.frz o (.tup xs)) ∧ o.dict = none) ∨
  ∃ (o : Obj) (its : Array Value) (n : Nat), K.lookup a = some o ∧ o.cls = .type "tuple" ∧ o.dict = none ∧ o.data = .seq its n ∧ its.size ≤ sizeLine ∧ Vals xs its.toList
theorem Ht.sq {K : PySem.W.Frag} {H : Hp} {a : Addr} {xs : List V} (h : Ht K H a xs) : SqT K H a xs := by
  rcases h with ⟨o, h, _⟩ | ⟨o, its, n, h1, h2, _, h4, h5, h6⟩
  · exact .inl (.inr ⟨o, h⟩)
  · exact .inr ⟨o, its, n, h1, h2, h4, h5, h6⟩
/-- a list that nobody changes: handed in, or written by the top -/
def Lf (K : PySem.W.Frag) (H : Hp) (a : Addr) (xs : List V) : Prop := (∃ o : Obj, H a = some (.frz o (.lst xs))) ∨
  ∃ (o : Obj) (its : Array Value) (n : Nat), K.lookup a = some o ∧ o.cls = .type "list" ∧ o.dict = none ∧ o.data = .seq its n ∧ its.size ≤ sizeLine ∧ Vals xs its.toList
theorem Lf.sq {K : PySem.W.Frag} {H : Hp} {a : Addr} {xs : List V} (h : Lf K H a xs) : SqL K H a xs := by
  rcases h with ⟨o, h⟩ | h
  · exact .inl (.inr ⟨o, h⟩)
  · exact .inr h
theorem Lf.of {K : PySem.W.Frag} {H : Hp} {a : Addr} {xs : List V} (ho : Only H) (h : SqL K H a xs) : Lf K H a xs := by
  rcases h with (h | h) | h
  · rcases ho a with e | ⟨o, ys, e⟩
    · rw [e] at h; cases h
    · rw [e] at h; cases h
  · exact .inl h
  · exact .inr h
mutual
inductive Tp (K : PySem.W.Frag) (H : Hp) : PyData → V → Prop
  | non : Tp K H .none .non
  | bl (b : Bool) : Tp K H (.bool b) (.bl b)
  | int (i : Int) : Tp K H (.int i) (.int i)
  | str (x : Str) : Tp K H (.str x) (.str x)
  | tup {a : Addr} {xs : List V} {ds : List PyData} : Ht K H a xs → TpA K H ds xs → Tp K H (.tuple ds) (.ref a)
  | lst {a : Addr} {xs : List V} {ds : List PyData} : Lf K H a xs → TpA K H ds xs → Tp K H (.list ds) (.ref a)
inductive TpA (K : PySem.W.Frag) (H : Hp) : List PyData → List V → Prop
  | nil : TpA K H [] []
  | cons {d : PyData} {v : V} {ds : List PyData} {vs : List V} : Tp K H d v → TpA K H ds vs → TpA K H (d :: ds) (v :: vs)
end
section
variable {K : PySem.W.Frag} {H : Hp}
theorem TpA.length : ∀ {ds : List PyData} {xs : List V}, TpA K H ds xs → ds.length = xs.length
  | [], _, h => by cases h; rfl
  | _ :: _, _, h => by
    cases h with
    | cons a b => rw [List.length_cons, List.length_cons, TpA.length b]
theorem TpA.get : ∀ {ds : List PyData} {xs : List V} {i : Nat} {d : PyData}, TpA K H ds xs → ds[i]? = some d → ∃ v, xs[i]? = some v ∧ Tp K H d v
  | [], _, _, _, _, e => by simp at e
  | d :: ds, _, 0, _, h, e => by
    cases h with
    | cons a b => simp at e; subst e; exact ⟨_, rfl, a⟩
  | d :: ds, _, i + 1, _, h, e => by
    cases h with
    | cons a b =>
      obtain ⟨v, h1, h2⟩ := TpA.get (i := i) b (by simpa using e)
      exact ⟨v, by simpa using h1, h2⟩
theorem TpA.append : ∀ {ds es : List PyData} {xs ys : List V}, TpA K H ds xs → TpA K H es ys → TpA K H (ds ++ es) (xs ++ ys)
  | [], _, _, _, h, k => by cases h; exact k
  | _ :: _, _, _, _, h, k => by
    cases h with
    | cons a b => exact .cons a (TpA.append b k)
theorem TpA.take : ∀ {ds : List PyData} {xs : List V} (n : Nat), TpA K H ds xs → TpA K H (ds.take n) (xs.take n)
  | _, _, 0, _ => by simp; exact .nil
  | [], _, n + 1, h => by cases h; exact .nil
  | _ :: _, _, n + 1, h => by
    cases h with
    | cons a b => exact .cons a (TpA.take n b)
theorem TpA.drop : ∀ {ds : List PyData} {xs : List V} (n : Nat), TpA K H ds xs → TpA K H (ds.drop n) (xs.drop n)
  | _, _, 0, h => h
  | [], _, n + 1, h => by cases h; exact .nil
  | _ :: _, _, n + 1, h => by
    cases h with
    | cons a b => exact TpA.drop n b
mutual
theorem Tp.dp : ∀ {d : PyData} {v : V}, Tp K H d v → Dp K H v d
  | .none, _, h => by cases h; exact .non
  | .bool _, _, h => by cases h; exact .bl _
  | .int _, _, h => by cases h; exact .int _
  | .str _, _, h => by cases h; exact .str _
  | .tuple ds, _, h => by
    cases h with
    | tup a b => exact .tup a.sq (TpA.dp b)
  | .list ds, _, h => by
    cases h with
    | lst a b => exact .lst a.sq (TpA.dp b)
  | .dict _, _, h => by cases h
theorem TpA.dp : ∀ {ds : List PyData} {xs : List V}, TpA K H ds xs → DpAll K H xs ds
  | [], _, h => by cases h; exact .nil
  | _ :: _, _, h => by
    cases h with
    | cons a b => exact .cons (Tp.dp a) (TpA.dp b)
end
end

/-- a value tells D: α the store's addresses, ph the defs' -/
def Tl (K : PySem.W.Frag) (ph : Nat → Option Addr) (α : List Addr) (H : Hp) : D → V → Prop
  | .p d, v => Tp K H d v
  | .ref i, v => ∃ a, α[i]? = some a ∧ v = .ref a
  | .fn i, v => ∃ a, ph i = some a ∧ v = .ref a
abbrev TlA (K : PySem.W.Frag) (ph : Nat → Option Addr) (α : List Addr) (H : Hp) : List D → List V → Prop := Paired (Tl K ph α H)
def ObT (K : PySem.W.Frag) (ph : Nat → Option Addr) (α : List Addr) (H : Hp) (a : Addr) : MO → Prop
  | .lst ds => ∃ xs, H a = some (.lst xs) ∧ TlA K ph α H ds xs
  | .dic kvs => ∃ ws : List (Key × V), H a = some (.dK ws) ∧ Paired (fun (p : Key × D) (q : Key × V) => p.1 = q.1 ∧ Tl K ph α H p.2 q.2) kvs ws
structure At (K : PySem.W.Frag) (ph : Nat → Option Addr) (α : List Addr) (H : Hp) (S : Sto) : Prop where
  len : α.length = S.length
  nd : α.Nodup
  obj : ∀ (i : Nat) (o : MO) (a : Addr), S[i]? = some o → α[i]? = some a → ObT K ph α H a o
  wf : ∀ (i : Nat) (o : MO), S[i]? = some o → rbO i o = true
structure Ext (α α' : List Addr) (H H' : Hp) : Prop where
  pre : ∀ (i : Nat) (a : Addr), α[i]? = some a → α'[i]? = some a
  keep : ∀ (a : Addr) (o : HO), H a = some o → a ∉ α → H' a = some o
  new : ∀ (a : Addr), a ∈ α' → a ∈ α ∨ H a = none
section
variable {K : PySem.W.Frag} {ph : Nat → Option Addr} {α α' α'' : List Addr} {H H' H'' : Hp} {S S' : Sto}
theorem Ext.refl (α : List Addr) (H : Hp) : Ext α α H H := ⟨fun _ _ h => h, fun _ _ h _ => h, fun _ h => .inl h⟩
theorem Ext.trans (x : Ext α α' H H') (y : Ext α' α'' H' H'') : Ext α α'' H H'' where
  pre := fun i a h => y.pre i a (x.pre i a h)
  keep := fun a o h n => y.keep a o (x.keep a o h n) fun m => by
    rcases x.new a m with z | z
    · exact n z
    · rw [h] at z; cases z
  new := fun a h => by
    rcases y.new a h with z | z
    · exact x.new a z
    · cases e : H a with
      | none => exact .inr rfl
      | some o =>
        by_cases m : a ∈ α
        · exact .inl m
        · rw [x.keep a o e m] at z; cases z
theorem At.mut (x : At K ph α H S) {a : Addr} (h : a ∈ α) : (∃ xs, H a = some (.lst xs)) ∨ ∃ ws, H a = some (.dK ws) := by
  obtain ⟨i, hi, e⟩ := List.getElem_of_mem h
  have e1 : α[i]? = some a := by rw [List.getElem?_eq_getElem hi, e]
  have hs : i < S.length := by rw [← x.len]; exact hi
  have e2 : S[i]? = some S[i] := List.getElem?_eq_getElem hs
  have q := x.obj i _ a e2 e1
  cases o : S[i] with
  | lst ds => rw [o] at q; obtain ⟨xs, h1, _⟩ := q; exact .inl ⟨xs, h1⟩
  | dic kvs => rw [o] at q; obtain ⟨ws, h1, _⟩ := q; exact .inr ⟨ws, h1⟩
theorem At.tupK (x : At K ph α H S) {a : Addr} {xs : List V} (h : H a = some (.tup xs)) : a ∉ α := fun m => by
  rcases x.mut m with ⟨_, z⟩ | ⟨_, z⟩ <;> (rw [h] at z; cases z)
theorem At.frzK (x : At K ph α H S) {a : Addr} {o : Obj} {u : HO} (h : H a = some (.frz o u)) : a ∉ α := fun m => by
  rcases x.mut m with ⟨_, z⟩ | ⟨_, z⟩ <;> (rw [h] at z; cases z)
/-- tuples and what is locked stay -/
structure KT (H H' : Hp) : Prop where
  tup : ∀ (a : Addr) (xs : List V), H a = some (.tup xs) → H' a = some (.tup xs)
  frz : ∀ (a : Addr) (o : Obj) (u : HO), H a = some (.frz o u) → H' a = some (.frz o u)
theorem KT.of (k : ∀ (a : Addr) (o : HO), H a = some o → a ∉ α → H' a = some o) (x : At K ph α H S) : KT H H' := ⟨fun a _ h => k a _ h (x.tupK h), fun a _ _ h => k a _ h (x.frzK h)⟩
theorem KT.lst {p : Addr} {xs : List V} {u : HO} (h : H p = some (.lst xs)) : KT H (L2.upd H p u) :=
  ⟨fun a _ q => by rw [upd_ne (fun z => by rw [z, h] at q; cases q)]; exact q, fun a _ _ q => by rw [upd_ne (fun z => by rw [z, h] at q; cases q)]; exact q⟩
theorem sqT_keep (k : KT H H') {a : Addr} {xs : List V} (h : SqT K H a xs) : SqT K H' a xs := by
  rcases h with (h | ⟨o, h⟩) | h
  · exact .inl (.inl (k.tup _ _ h))
  · exact .inl (.inr ⟨o, k.frz _ _ _ h⟩)
  · exact .inr h
theorem ht_keep (k : KT H H') {a : Addr} {xs : List V} (h : Ht K H a xs) : Ht K H' a xs := by
  rcases h with ⟨o, h, d⟩ | h
  · exact .inl ⟨o, k.frz _ _ _ h, d⟩
  · exact .inr h
mutual
theorem Tp.keep (k : KT H H') : ∀ {d : PyData} {v : V}, Tp K H d v → Tp K H' d v
  | .none, _, h => by cases h; exact .non
  | .bool _, _, h => by cases h; exact .bl _
  | .int _, _, h => by cases h; exact .int _
  | .str _, _, h => by cases h; exact .str _
  | .tuple ds, _, h => by
    cases h with
    | tup a b => exact .tup (ht_keep k a) (TpA.keep k b)
  | .list ds, _, h => by
    cases h with
    | lst a b => exact .lst (a.imp (fun ⟨o, z⟩ => ⟨o, k.frz _ _ _ z⟩) id) (TpA.keep k b)
  | .dict _, _, h => by cases h
theorem TpA.keep (k : KT H H') : ∀ {ds : List PyData} {xs : List V}, TpA K H ds xs → TpA K H' ds xs
  | [], _, h => by cases h; exact .nil
  | _ :: _, _, h => by
    cases h with
    | cons a b => exact .cons (Tp.keep k a) (TpA.keep k b)
end
theorem Ext.kt (e : Ext α α' H H') (x : At K ph α H S) : KT H H' := KT.of e.keep x
theorem Tl.ext (e : Ext α α' H H') (x : At K ph α H S) : ∀ {d : D} {v : V}, Tl K ph α H d v → Tl K ph α' H' d v
  | .p _, _, h => Tp.keep (e.kt x) h
  | .ref _, _, ⟨a, h1, h2⟩ => ⟨a, e.pre _ _ h1, h2⟩
  | .fn _, _, h => h
theorem TlA.ext (e : Ext α α' H H') (x : At K ph α H S) {ds : List D} {vs : List V} (h : TlA K ph α H ds vs) : TlA K ph α' H' ds vs := Paired.mapP h fun _ _ q => q.ext e x
/-- all tells stay when the heap changes at the store's own objects alone -/
theorem Tl.keep (k : KT H H') : ∀ {d : D} {v : V}, Tl K ph α H d v → Tl K ph α H' d v
  | .p _, _, h => Tp.keep k h
  | .ref _, _, h => h
  | .fn _, _, h => h
theorem TlA.plain : ∀ {ds : List D} {ps : List PyData} {vs : List V}, TlA K ph α H ds vs → plainOf ds = some ps → TpA K H ps vs
  | [], _, _, h, e => by
    cases h
    cases e
    exact .nil
  | .p d :: r, ps, _, h, e => by
    cases h with
    | cons a b =>
      unfold plainOf at e
      cases q : plainOf r with
      | none => rw [q] at e; cases e
      | some rs =>
        rw [q] at e
        cases e
        exact .cons a (TlA.plain b q)
  | .ref _ :: _, _, _, _, e => by cases e
  | .fn _ :: _, _, _, _, e => by cases e
theorem TpA.toTl : ∀ {ps : List PyData} {vs : List V}, TpA K H ps vs → TlA K ph α H (ps.map D.p) vs
  | [], _, h => by cases h; exact .nil
  | _ :: _, _, h => by
    cases h with
    | cons a b => exact .cons a (TpA.toTl b)
theorem Paired.get {A B : Type} {F : A → B → Prop} : ∀ {l : List A} {m : List B} {i : Nat} {a : A}, Paired F l m → l[i]? = some a → ∃ b, m[i]? = some b ∧ F a b
  | [], _, _, _, _, e => by simp at e
  | _ :: _, _, 0, _, h, e => by
    cases h with
    | cons x y => simp at e; subst e; exact ⟨_, rfl, x⟩
  | _ :: _, _, i + 1, _, h, e => by
    cases h with
    | cons x y =>
      obtain ⟨b, h1, h2⟩ := Paired.get (i := i) y (by simpa using e)
      exact ⟨b, by simpa using h1, h2⟩
theorem Paired.setAt {A B : Type} {F : A → B → Prop} {a : A} {b : B} (r : F a b) : ∀ {l : List A} {m : List B} (i : Nat), Paired F l m → Paired F (l.set i a) (m.set i b)
  | [], _, _, h => by cases h; exact .nil
  | _ :: _, _, 0, h => by
    cases h with
    | cons x y => exact .cons r y
  | _ :: _, _, i + 1, h => by
    cases h with
    | cons x y => exact .cons x (Paired.setAt r i y)
theorem Paired.app {A B : Type} {F : A → B → Prop} : ∀ {l l' : List A} {m m' : List B}, Paired F l m → Paired F l' m' → Paired F (l ++ l') (m ++ m')
  | [], _, _, _, h, k => by cases h; exact k
  | _ :: _, _, _, _, h, k => by
    cases h with
    | cons x y => exact .cons x (Paired.app y k)
/-- a store's list or dict at its address -/
theorem At.lst (x : At K ph α H S) {j : Nat} {ds : List D} (h : S[j]? = some (.lst ds)) : ∃ a xs, α[j]? = some a ∧ H a = some (.lst xs) ∧ TlA K ph α H ds xs := by
  have hj : j < α.length := by rw [x.len]; exact (List.getElem?_eq_some_iff.mp h).1
  have e : α[j]? = some α[j] := List.getElem?_eq_getElem hj
  obtain ⟨xs, h1, h2⟩ := x.obj j _ _ h e
  exact ⟨_, xs, e, h1, h2⟩
theorem At.dic (x : At K ph α H S) {j : Nat} {kvs : List (Key × D)} (h : S[j]? = some (.dic kvs)) : ∃ a ws, α[j]? = some a ∧ H a = some (.dK ws) ∧ Paired (fun (p : Key × D) (q : Key × V) => p.1 = q.1 ∧ Tl K ph α H p.2 q.2) kvs ws := by
  have hj : j < α.length := by rw [x.len]; exact (List.getElem?_eq_some_iff.mp h).1
  have e : α[j]? = some α[j] := List.getElem?_eq_getElem hj
  obtain ⟨xs, h1, h2⟩ := x.obj j _ _ h e
  exact ⟨_, xs, e, h1, h2⟩
theorem nd_at {A : Type} {l : List A} (hN : l.Nodup) {i j : Nat} {x : A} (a : l[i]? = some x) (b : l[j]? = some x) : i = j := by
  obtain ⟨h1, e1⟩ := List.getElem?_eq_some_iff.mp a
  obtain ⟨h2, e2⟩ := List.getElem?_eq_some_iff.mp b
  exact (List.getElem_inj hN).mp (e1.trans e2.symm)
theorem mem_at {A : Type} {l : List A} {i : Nat} {x : A} (a : l[i]? = some x) : x ∈ l := List.mem_of_getElem? a
/-- objects stay as told where the heap changed elsewhere -/
theorem ObT.keep (k : KT H H') {a : Addr} {o : MO} (e : H' a = H a) (h : ObT K ph α H a o) : ObT K ph α H' a o := by
  cases o with
  | lst ds =>
    obtain ⟨xs, h1, h2⟩ := h
    exact ⟨xs, e.trans h1, Paired.mapP h2 fun _ _ q => q.keep k⟩
  | dic kvs =>
    obtain ⟨ws, h1, h2⟩ := h
    exact ⟨ws, e.trans h1, Paired.mapP h2 fun _ _ q => ⟨q.1, q.2.keep k⟩⟩
/-- the list at j changed -/
theorem At.upd (x : At K ph α H S) {j : Nat} {a : Addr} {u : HO} {o : MO} (ha : α[j]? = some a) (hb : rbO j o = true) (ho : ∀ H' : Hp, KT H H' → H' a = some u → ObT K ph α H' a o) :
    Ext α α H (L2.upd H a u) ∧ At K ph α (L2.upd H a u) (S.set j o) := by
  have k : ∀ (b : Addr) (w : HO), H b = some w → b ∉ α → (L2.upd H a u) b = some w := fun b w hb n => by
    rw [upd_ne (fun z => n (by rw [z]; exact mem_at ha))]
    exact hb
  refine ⟨⟨fun _ _ h => h, k, fun _ h => .inl h⟩, ⟨by rw [List.length_set]; exact x.len, x.nd, fun i w b hi hba => ?_, fun i w hi => ?_⟩⟩
  · by_cases e : i = j
    · subst e
      rw [ha] at hba
      cases hba
      have hl : i < S.length := by rw [← x.len]; exact (List.getElem?_eq_some_iff.mp ha).1
      rw [List.getElem?_set_self hl] at hi
      cases hi
      exact ho _ (KT.of k x) upd_same
    · rw [List.getElem?_set_ne (Ne.symm e)] at hi
      refine (x.obj i w b hi hba).keep (KT.of k x) (upd_ne fun z => e ?_)
      subst z
      exact nd_at x.nd hba ha
  · by_cases e : i = j
    · subst e
      have hl : i < S.length := by rw [← x.len]; exact (List.getElem?_eq_some_iff.mp ha).1
      rw [List.getElem?_set_self hl] at hi
      cases hi
      exact hb
    · rw [List.getElem?_set_ne (Ne.symm e)] at hi
      exact x.wf i w hi
/-- a new object that the store does not know -/
theorem At.fresh (x : At K ph α H S) {p : Addr} {u : HO} (hp : H p = none) : Ext α α H (L2.upd H p u) ∧ At K ph α (L2.upd H p u) S := by
  have np : ∀ (b : Addr) (w : HO), H b = some w → b ≠ p := fun b w hb z => by rw [z, hp] at hb; cases hb
  have k : ∀ (b : Addr) (w : HO), H b = some w → b ∉ α → (L2.upd H p u) b = some w := fun b w hb _ => by rw [upd_ne (np b w hb)]; exact hb
  refine ⟨⟨fun _ _ h => h, k, fun _ h => .inl h⟩, ⟨x.len, x.nd, fun i w b hi hb => ?_, x.wf⟩⟩
  refine (x.obj i w b hi hb).keep (KT.of k x) ?_
  rcases x.mut (mem_at hb) with ⟨_, z⟩ | ⟨_, z⟩ <;> exact upd_ne (np _ _ z)
/-- a list apart from the store changes -/
theorem At.apart (x : At K ph α H S) {p : Addr} {xs : List V} {u : HO} (hp : H p = some (.lst xs)) (hn : p ∉ α) : At K ph α (L2.upd H p u) S :=
  ⟨x.len, x.nd, fun i w b hi hb => (x.obj i w b hi hb).keep (KT.lst hp) (upd_ne fun z => hn (by rw [← z]; exact mem_at hb)), x.wf⟩
/-- an object that lies in the heap comes into the store -/
theorem At.take_in (x : At K ph α H S) {p : Addr} {o : MO} (hn : p ∉ α) (ho : ObT K ph α H p o) (hb : rbO S.length o = true) : At K ph (α ++ [p]) H (S ++ [o]) ∧ ∀ (i : Nat) (a : Addr), α[i]? = some a → (α ++ [p])[i]? = some a := by
  have pre : ∀ (i : Nat) (a : Addr), α[i]? = some a → (α ++ [p])[i]? = some a := fun i a h => by rw [List.getElem?_append_left (List.getElem?_eq_some_iff.mp h).1]; exact h
  have tl : ∀ {d : D} {v : V}, Tl K ph α H d v → Tl K ph (α ++ [p]) H d v := fun {d v} h => by
    cases d with
    | p d => exact h
    | ref i => obtain ⟨a, h1, h2⟩ := h; exact ⟨a, pre _ _ h1, h2⟩
    | fn i => exact h
  have ot : ∀ {a : Addr} {o : MO}, ObT K ph α H a o → ObT K ph (α ++ [p]) H a o := fun {a o} h => by
    cases o with
    | lst ds => obtain ⟨xs, h1, h2⟩ := h; exact ⟨xs, h1, Paired.mapP h2 fun _ _ q => tl q⟩
    | dic kvs => obtain ⟨xs, h1, h2⟩ := h; exact ⟨xs, h1, Paired.mapP h2 fun _ _ q => ⟨q.1, tl q.2⟩⟩
  refine ⟨⟨by rw [List.length_append, List.length_append, x.len]; rfl, ?_, fun i w a hi ha => ?_, fun i w hi => ?_⟩, pre⟩
  · rw [List.nodup_append]
    exact ⟨x.nd, by simp, fun a h1 b h2 z => by simp at h2; subst h2; subst z; exact hn h1⟩
  · by_cases e : i < S.length
    · rw [List.getElem?_append_left e] at hi
      rw [List.getElem?_append_left (by rw [x.len]; exact e)] at ha
      exact ot (x.obj i w a hi ha)
    · have e1 : i = S.length := by
        have := (List.getElem?_eq_some_iff.mp hi).1
        rw [List.length_append, List.length_singleton] at this
        omega
      subst e1
      rw [List.getElem?_append_right (Nat.le_refl _)] at hi
      rw [← x.len, List.getElem?_append_right (Nat.le_refl _)] at ha
      simp at hi ha
      subst hi
      subst ha
      exact ot ho
  · by_cases e : i < S.length
    · rw [List.getElem?_append_left e] at hi
      exact x.wf i w hi
    · have e1 : i = S.length := by
        have := (List.getElem?_eq_some_iff.mp hi).1
        rw [List.length_append, List.length_singleton] at this
        omega
      subst e1
      rw [List.getElem?_append_right (Nat.le_refl _)] at hi
      simp at hi
      subst hi
      exact hb
theorem rb_mono {n m : Nat} (h : n ≤ m) {d : D} (r : rb n d = true) : rb m d = true := by
  cases d with
  | p _ => rfl
  | ref j => exact decide_eq_true (Nat.lt_of_lt_of_le (of_decide_eq_true r) h)
  | fn _ => rfl
theorem rbO_mono {n m : Nat} (h : n ≤ m) {o : MO} (r : rbO n o = true) : rbO m o = true := by
  cases o with
  | lst ds =>
    unfold rbO at r ⊢
    rw [List.all_eq_true] at r ⊢
    exact fun d hd => rb_mono h (r d hd)
  | dic kvs =>
    unfold rbO at r ⊢
    rw [List.all_eq_true] at r ⊢
    exact fun d hd => rb_mono h (r d hd)
theorem Tl.cut {n : Nat} {d : D} {v : V} (r : rb n d = true) (h : Tl K ph α H d v) : Tl K ph (α.take n) H d v := by
  cases d with
  | p _ => exact h
  | ref j =>
    obtain ⟨a, h1, h2⟩ := h
    have hj : j < n := of_decide_eq_true r
    exact ⟨a, by rw [List.getElem?_take_of_lt hj]; exact h1, h2⟩
  | fn _ => exact h
theorem pair_all {A B : Type} {F G : A → B → Prop} {P : A → Bool} : ∀ {l : List A} {m : List B}, Paired F l m → l.all P = true → (∀ a b, P a = true → F a b → G a b) → Paired G l m
  | [], _, h, _, _ => by cases h; exact .nil
  | a :: l, _, h, q, k => by
    cases h with
    | cons x y =>
      rw [List.all_cons, Bool.and_eq_true] at q
      exact .cons (k _ _ q.1 x) (pair_all y q.2 k)
theorem ObT.cut {n : Nat} {o : MO} {a : Addr} (r : rbO n o = true) (h : ObT K ph α H a o) : ObT K ph (α.take n) H a o := by
  cases o with
  | lst ds =>
    obtain ⟨xs, h1, h2⟩ := h
    exact ⟨xs, h1, pair_all h2 r fun _ _ q z => z.cut q⟩
  | dic kvs =>
    obtain ⟨xs, h1, h2⟩ := h
    exact ⟨xs, h1, pair_all h2 r fun _ _ q z => ⟨z.1, z.2.cut q⟩⟩
theorem At.cut (x : At K ph α H S) (n : Nat) : At K ph (α.take n) H (S.take n) := by
  refine ⟨by rw [List.length_take, List.length_take, x.len], x.nd.sublist (List.take_sublist _ _), fun i o a hi ha => ?_, fun i o hi => ?_⟩
  · have hn : i < n := by
      have := (List.getElem?_eq_some_iff.mp hi).1
      rw [List.length_take] at this
      omega
    rw [List.getElem?_take_of_lt hn] at hi ha
    exact (x.obj i o a hi ha).cut (rbO_mono (Nat.le_of_lt hn) (x.wf i o hi))
  · have hn : i < n := by
      have := (List.getElem?_eq_some_iff.mp hi).1
      rw [List.length_take] at this
      omega
    rw [List.getElem?_take_of_lt hn] at hi
    exact x.wf i o hi
/-- the slots -/
structure Sr (K : PySem.W.Frag) (ph : Nat → Option Addr) (α : List Addr) (H : Hp) (σ : L2.St) (ρ : Sl) : Prop where
  len : σ.length = ρ.length
  at_ : ∀ (i : Nat) (d : D), ρ[i]? = some (some d) → ∃ v, σ[i]? = some (some v) ∧ Tl K ph α H d v
theorem Sr.ext {σ : L2.St} {ρ : Sl} (r : Sr K ph α H σ ρ) (e : Ext α α' H H') (x : At K ph α H S) : Sr K ph α' H' σ ρ := ⟨r.len, fun i d h => let ⟨v, h1, h2⟩ := r.at_ i d h; ⟨v, h1, h2.ext e x⟩⟩
theorem Sr.keep {σ : L2.St} {ρ : Sl} (r : Sr K ph α H σ ρ) (k : KT H H') : Sr K ph α H' σ ρ := ⟨r.len, fun i d h => let ⟨v, h1, h2⟩ := r.at_ i d h; ⟨v, h1, h2.keep k⟩⟩
theorem Sr.set {σ : L2.St} {ρ : Sl} (r : Sr K ph α H σ ρ) {i : Nat} {d : D} {v : V} (h : Tl K ph α H d v) : Sr K ph α H (σ.set i (some v)) (ρ.set i (some d)) := by
  refine ⟨by rw [List.length_set, List.length_set, r.len], fun j e hj => ?_⟩
  by_cases q : i = j
  · subst q
    have hl : i < ρ.length := by
      have := (List.getElem?_eq_some_iff.mp hj).1
      rwa [List.length_set] at this
    rw [List.getElem?_set_self hl] at hj
    cases hj
    exact ⟨v, by rw [List.getElem?_set_self (by rw [r.len]; exact hl)], h⟩
  · rw [List.getElem?_set_ne q] at hj
    rw [List.getElem?_set_ne q]
    exact r.at_ j e hj
theorem Sr.none {σ : L2.St} {ρ : Sl} (r : Sr K ph α H σ ρ) (i : Nat) : Sr K ph α H (σ.set i Option.none) (ρ.set i Option.none) := by
  refine ⟨by rw [List.length_set, List.length_set, r.len], fun j e hj => ?_⟩
  by_cases q : i = j
  · subst q
    have hl : i < ρ.length := by
      have := (List.getElem?_eq_some_iff.mp hj).1
      rwa [List.length_set] at this
    rw [List.getElem?_set_self hl] at hj
    cases hj
  · rw [List.getElem?_set_ne q] at hj
    rw [List.getElem?_set_ne q]
    exact r.at_ j e hj
theorem Sr.wipe {σ : L2.St} {ρ : Sl} (r : Sr K ph α H σ ρ) : ∀ vs : List Nat, Sr K ph α H (L2.wipe σ vs) (wipeD ρ vs)
  | [] => r
  | v :: vs => (Sr.wipe r vs).none v
end
end Ir
set_option Elab.async false
set_option maxRecDepth 100000
set_option maxHeartbeats 4000001
/-! Readings by a run of the small language; a rule for each of its words. -/
namespace Ir
open PySem L2 PySem.Spec PyProof.Rows

/-- what a whole law has in common: the written part, the defs' addresses, how an exception lies -/
structure Gc where
  K : PySem.W.Frag
  ph : Nat → Option Addr
  TX : Ex → Value → Option Addr → Hp → Prop
abbrev Gc.At (g : Gc) := Ir.At g.K g.ph
abbrev Gc.Tl (g : Gc) := Ir.Tl g.K g.ph
abbrev Gc.TlA (g : Gc) := Ir.TlA g.K g.ph
abbrev Gc.Sr (g : Gc) := Ir.Sr g.K g.ph
def exW (g : Gc) (W : WX) (α : List Addr) (σ : L2.St) (H : Hp) (e : Ex) (S' : Sto) : Prop := ∀ cls dx α' H', Ext α α' H H' → g.At α' H' S' → g.TX e cls dx H' → W cls dx σ H'
/-- from the store S at α: m runs to its end, and k holds of what it gives, however the heap grew -/
def rAt (g : Gc) (W : WX) (α : List Addr) (S : Sto) {β : Type} (m : Sl → M β) (σ : L2.St) (H : Hp) (k : β → Sto → List Addr → Hp → Prop) : Prop :=
  ∃ ρ, g.At α H S ∧ g.Sr α H σ ρ ∧ wp (m ρ S) (fun b S' => ∀ α' H', Ext α α' H H' → g.At α' H' S' → k b S' α' H') (exW g W α σ H)
def rM (g : Gc) (W : WX) {β : Type} (m : Sl → M β) (σ : L2.St) (H : Hp) (k : β → Sto → List Addr → Hp → Prop) : Prop := ∃ α S, rAt g W α S m σ H k
section
variable {g : Gc} {W : WX} {α : List Addr} {S : Sto} {β γ : Type} {m : Sl → M β} {f : β → Sl → M γ} {σ : L2.St} {H : Hp}
theorem rAt.imp {k k' : β → Sto → List Addr → Hp → Prop} (h : rAt g W α S m σ H k) (i : ∀ b S' α' H', Ext α α' H H' → g.At α' H' S' → k b S' α' H' → k' b S' α' H') : rAt g W α S m σ H k' := by
  obtain ⟨ρ, a, r, h⟩ := h
  exact ⟨ρ, a, r, wp_mono h (fun b S' q α' H' e a' => i b S' α' H' e a' (q α' H' e a')) fun _ _ z => z⟩
theorem rAt.bind {k : γ → Sto → List Addr → Hp → Prop} (h : rAt g W α S (fun ρ => M.bind (m ρ) fun b => f b ρ) σ H k) : rAt g W α S m σ H (fun b S' α' H' => rAt g W α' S' (f b) σ H' k) := by
  obtain ⟨ρ, a, r, h⟩ := h
  refine ⟨ρ, a, r, wp_mono (wp_bind h) (fun b S' q α' H' e a' => ⟨ρ, a', r.ext e a, wp_mono q (fun c S2 q2 α2 H2 e2 a2 => q2 α2 H2 (e.trans e2) a2) fun x S2 z cls dx α2 H2 e2 a2 t => z cls dx α2 H2 (e.trans e2) a2 t⟩) fun _ _ z => z⟩
theorem rAt.opt {o : Sto → Option γ} {k : γ → Sto → List Addr → Hp → Prop} (h : rAt g W α S (fun _ => fun S => M.opt (o S) S) σ H k) : ∃ z, o S = some z ∧ ∀ α' H', Ext α α' H H' → g.At α' H' S → k z S α' H' := by
  obtain ⟨ρ, a, r, h⟩ := h
  cases e : o S with
  | none =>
    simp only [M.opt, e] at h
    exact h.elim
  | some z =>
    simp only [M.opt, e] at h
    exact ⟨z, rfl, h⟩
theorem rAt.here {k : β → Sto → List Addr → Hp → Prop} {b : β} (h : rAt g W α S (fun _ => M.pure b) σ H k) : ∀ α' H', Ext α α' H H' → g.At α' H' S → k b S α' H' := by
  obtain ⟨ρ, a, r, h⟩ := h
  exact h
theorem rAt.at_ {k : β → Sto → List Addr → Hp → Prop} (h : rAt g W α S m σ H k) : g.At α H S := let ⟨_, a, _⟩ := h; a
end

/-! ### the readings -/
def rE (g : Gc) (W : WX) (m : Sl → M D) : TE := fun σ H Q => rM g W m σ H fun d _ α' H' => ∀ v, g.Tl α' H' d v → Q v H'
def rT (g : Gc) (W : WX) (m : Sl → M D) : TT := fun σ H Q => rM g W m σ H fun d _ _ H' => ∃ b, d = .p (.bool b) ∧ Q b H'
def rA (g : Gc) (W : WX) (m : Sl → M (List D)) : TA := fun σ H Q => rM g W m σ H fun ds _ α' H' => ∀ vs, g.TlA α' H' ds vs → Q vs H'
/-- a list that lies apart from the store -/
def rL (g : Gc) (W : WX) (m : Sl → M (List D)) : TE := fun σ H Q => rM g W m σ H fun ds _ α' H' => ∀ p xs, p ∉ α' → SqL g.K H' p xs → H' p = some (.lst xs) → g.TlA α' H' ds xs → Q (.ref p) H'
section
variable {X : Cx} {g : Gc} {W : WX}
theorem pe_imp {e : Expr} {t t' : TE} (h : PE X e t) (i : ∀ σ H Q, t' σ H Q → t σ H Q) : PE X e t' := ⟨fun pins s σ H Q I q => h.run pins s σ H Q I (i σ H Q q)⟩
theorem pt_imp {e : Expr} {t t' : TT} (h : PT X e t) (i : ∀ σ H Q, t' σ H Q → t σ H Q) : PT X e t' := ⟨fun pins s σ H Q I q => h.run pins s σ H Q I (i σ H Q q)⟩
theorem pw_imp {e : Expr} {t t' : TT} (h : PW X e t) (i : ∀ σ H Q, t' σ H Q → t σ H Q) : PW X e t' := ⟨fun w pins s σ H Q I q => h.run w pins s σ H Q I (i σ H Q q)⟩
theorem pa_imp {e : List Expr} {t t' : TA} (h : PA X e t) (i : ∀ σ H Q, t' σ H Q → t σ H Q) : PA X e t' := ⟨fun p pins s σ H Q I q => h.run p pins s σ H Q I (i σ H Q q)⟩
theorem ps_imp {e : Stmt} {t t' : TS} (h : PS X e t) (i : ∀ D σ H, t' D σ H → t D σ H) : PS X e t' := ⟨fun pins s σ H D I q => h.run pins s σ H D I (i D σ H q)⟩
theorem pss_imp {e : List Stmt} {t t' : TS} (h : PSs X e t) (i : ∀ D σ H, t' D σ H → t D σ H) : PSs X e t' := ⟨fun pins s σ H D I q => h.run pins s σ H D I (i D σ H q)⟩
theorem pi_imp {tg iter : Expr} {t t' : TI} (h : PI X tg iter t) (i : ∀ σ H R, t' σ H R → t σ H R) : PI X tg iter t' := ⟨fun pins s σ H R I q => h.run pins s σ H R I (i σ H R q)⟩
end

section
variable {X : Cx} {g : Gc} {W : WX} {cal : Nat → List D → M D} {pos : Pos}
/-! ### names and constants -/
theorem e_var (i : Nat) {x : Str} (hN : X.N[i]? = some x := by rfl) (hv : Vis X.env.scope x := by first | exact Or.inl rfl | exact Or.inr (Or.inl rfl) | exact Or.inr (Or.inr rfl)) (hd : (x == ("__debug__" : Str)) = false := by decide)
    (hcd : (x == ("__classdict__" : Str)) = false := by decide) : PE X (.Name x pos) (rE g W (evE cal (.var i))) := by
  refine pe_imp (pe_var hN hv hd hcd) fun σ H Q h => ?_
  obtain ⟨α, S, ρ, a, r, h⟩ := h
  have h : wp ((M.opt (match ρ[i]? with | some (some d) => some d | _ => none) : M D) S) (fun b S' => ∀ α' H', Ext α α' H H' → g.At α' H' S' → ∀ v, g.Tl α' H' b v → Q v H') (exW g W α σ H) := h
  cases e : ρ[i]? with
  | none => simp only [e, M.opt] at h; exact h.elim
  | some o =>
    cases o with
    | none => simp only [e, M.opt] at h; exact h.elim
    | some d =>
      simp only [e, M.opt] at h
      obtain ⟨v, h1, h2⟩ := r.at_ i d e
      exact ⟨v, h1, h α H (Ext.refl α H) a v h2⟩
theorem cst_of {d : D} {v : V} {σ : L2.St} {H : Hp} {Q : VK} (h : rE g W (evE cal (.cst d)) σ H Q) (t : ∀ α, g.Tl α H d v) : Q v H := by
  obtain ⟨α, S, ρ, a, r, h⟩ := h
  exact h α H (Ext.refl α H) a v (t α)
theorem e_int {i : Int} {j : Nat} : PE X (.Constant (.int i) j pos) (rE g W (evE cal (.cst (.p (.int i))))) := pe_imp pe_int fun _ _ _ h => cst_of h fun _ => .int i
theorem e_bl {b : Bool} {j : Nat} : PE X (.Constant (.bool b) j pos) (rE g W (evE cal (.cst (.p (.bool b))))) := pe_imp pe_bl fun _ _ _ h => cst_of h fun _ => .bl b
theorem e_non {j : Nat} : PE X (.Constant .none j pos) (rE g W (evE cal (.cst (.p .none)))) := pe_imp pe_non fun _ _ _ h => cst_of h fun _ => .non
theorem e_str {x : Str} {j : Nat} : PE X (.Constant (.str x) j pos) (rE g W (evE cal (.cst (.p (.str x))))) := pe_imp pe_str fun _ _ _ h => cst_of h fun _ => .str x
/-- a constant of the module: its value tells d in every heap -/
structure Gv (g : Gc) (mg : Str → Option Value) (x : Str) (d : D) : Prop where
  ex : ∃ v u, mg x = some u ∧ RelV v u ∧ ∀ α H, g.Tl α H d v
theorem e_glob {x : Str} {d : D} (c : Gv g X.mg x d) (hg : Gl X x := by rfl) (hd : (x == ("__debug__" : Str)) = false := by decide) : PE X (.Name x pos) (rE g W (evE cal (.cst d))) := by
  obtain ⟨v, u, h1, h2, h3⟩ := c.ex
  exact pe_imp (pe_glob hg h1 h2 hd) fun σ H Q h => cst_of h fun α => h3 α H

/-! ### operators -/
/-- an operation by values, the heap as it stands or one new object more -/
def Op2 (g : Gc) (f : Sto → D → D → Option D) (r : R2) : Prop := ∀ α H S dx dy dz x y (Q : VK), g.At α H S → g.Tl α H dx x → g.Tl α H dy y → f S dx dy = some dz →
  (∀ α' H', Ext α α' H H' → g.At α' H' S → ∀ v, g.Tl α' H' dz v → Q v H') → r x y H Q
theorem tOp_of {r : R2} {ma mb : Sl → M D} {f : Sto → D → D → Option D} (o : Op2 g f r) {σ : L2.St} {H : Hp} {Q : VK}
    (h : rE g W (fun ρ => M.bind (ma ρ) fun x => M.bind (mb ρ) fun y => fun S => M.opt (f S x y) S) σ H Q) : tOp r (rE g W ma) (rE g W mb) σ H Q := by
  obtain ⟨α, S, h⟩ := h
  refine ⟨α, S, h.bind.imp fun x S1 α1 H1 e1 a1 h1 v tv => ⟨α1, S1, h1.bind.imp fun y S2 α2 H2 e2 a2 h2 u tu => ?_⟩⟩
  obtain ⟨z, hz, q⟩ := h2.opt
  exact o α2 H2 S2 x y z v u Q a2 (tv.ext e2 a1) tu hz q
theorem e_bin {op : Operator} {o : BOp} {r : R2} {a b : Expr} {ia ib : E} (ho : OpR X (binaryOp op) r) (oo : Op2 g (fun _ => bop o) r) (ha : PE X a (rE g W (evE cal ia))) (hb : PE X b (rE g W (evE cal ib))) :
    PE X (.BinOp a op b pos) (rE g W (evE cal (.bin o ia ib))) := pe_imp (pe_op ho ha hb) fun _ _ _ h => tOp_of oo h
theorem e_cmp {op : CmpOp} {o : COp} {r : R2} {a b : Expr} {ia ib : E} (ho : OpR X (compareOp op) r) (oo : Op2 g (fun S x y => (cop S o x y).map fun k => .p (.bool k)) r) (ha : PE X a (rE g W (evE cal ia))) (hb : PE X b (rE g W (evE cal ib)))
    (hm : behindInMarks op b = false := by first | exact nomark _ (by decide) (by decide) | rfl) : PE X (.Compare a [op] [b] pos) (rE g W (evE cal (.cmp o ia ib))) := pe_imp (pe_cmpR ho ha hb hm) fun _ _ _ h => tOp_of oo h
theorem t_of {t : TE} {m : Sl → M D} {σ : L2.St} {H : Hp} {Q : Bool → Hp → Prop} (i : ∀ Q', rE g W m σ H Q' → t σ H Q') (h : rT g W m σ H Q) : t σ H fun x H' => ∃ k, x = .bl k ∧ Q k H' := by
  refine i _ ?_
  obtain ⟨α, S, h⟩ := h
  refine ⟨α, S, h.imp fun d S1 α1 H1 e1 a1 q v tv => ?_⟩
  obtain ⟨b, rfl, q⟩ := q
  cases tv
  exact ⟨b, rfl, q⟩
theorem t_cmp {op : CmpOp} {o : COp} {r : R2} {a b : Expr} {ia ib : E} (ho : OpR X (compareOp op) r) (oo : Op2 g (fun S x y => (cop S o x y).map fun k => .p (.bool k)) r) (ha : PE X a (rE g W (evE cal ia))) (hb : PE X b (rE g W (evE cal ib)))
    (hm : behindInMarks op b = false := by first | exact nomark _ (by decide) (by decide) | rfl) : PT X (.Compare a [op] [b] pos) (rT g W (evE cal (.cmp o ia ib))) :=
  pt_imp (pt_cmpR ho ha hb hm) fun _ _ _ h => t_of (fun _ q => tOp_of oo q) h
theorem t_val {e : Expr} {ie : E} (h : PE X e (rE g W (evE cal ie))) (he : ∀ whole, isTrue e X.env whole = (do let v ← whole; standAt e.pos; holding [v] (truthy v)) := by intro _; rfl) : PT X e (rT g W (evE cal ie)) :=
  pt_imp (pt_val h he) fun _ _ _ q => t_of (fun _ z => z) q
theorem tChain_of {r r' : R2} {ma mb mc : Sl → M D} {o o' : COp} (oo : Op2 g (fun S x y => (cop S o x y).map fun k => .p (.bool k)) r) (oo' : Op2 g (fun S x y => (cop S o' x y).map fun k => .p (.bool k)) r') {σ : L2.St} {H : Hp} {Q : VK}
    (h : rE g W (fun ρ => M.bind (ma ρ) fun x => M.bind (mb ρ) fun y => M.bind (fun S => M.opt (cop S o x y) S) fun k =>
      if k = true then M.bind (mc ρ) fun z => fun S => M.opt ((cop S o' y z).map fun k => .p (.bool k)) S else M.pure (.p (.bool false))) σ H Q) : tChain r r' (rE g W ma) (rE g W mb) (rE g W mc) σ H Q := by
  obtain ⟨α, S, h⟩ := h
  refine ⟨α, S, h.bind.imp fun x S1 α1 H1 e1 a1 h1 v tv => ⟨α1, S1, h1.bind.imp fun y S2 α2 H2 e2 a2 h2 u tu => ?_⟩⟩
  have h3 := (rAt.bind (m := fun _ => fun S => M.opt (cop S o x y) S) (f := fun k ρ => if k = true then M.bind (mc ρ) fun z => fun S => M.opt ((cop S o' y z).map fun k => D.p (.bool k)) S else M.pure (.p (.bool false))) h2).opt
  obtain ⟨k, hk, q⟩ := h3
  refine oo α2 H2 S2 x y (.p (.bool k)) v u _ a2 (tv.ext e2 a1) tu (by show Option.map _ (cop S2 o x y) = _; rw [hk]; rfl) fun α3 H3 e3 a3 z tz => ?_
  cases tz
  refine ⟨k, rfl, ?_⟩
  have q3 := q α3 H3 e3 a3
  cases k with
  | false => exact q3.here α3 H3 (Ext.refl _ _) a3 _ (.bl false)
  | true =>
    refine ⟨α3, S2, (rAt.bind (m := mc) (f := fun z _ => fun S => M.opt ((cop S o' y z).map fun k => D.p (.bool k)) S) q3).imp fun z S4 α4 H4 e4 a4 h4 t tt => ?_⟩
    obtain ⟨zz, hz, q4⟩ := h4.opt
    exact oo' α4 H4 S4 y z zz u t Q a4 ((tu.ext e3 a2).ext e4 a3) tt hz q4
theorem e_chain {op op' : CmpOp} {o o' : COp} {r r' : R2} {a b c : Expr} {ia ib ic : E} (ho : OpR X (compareOp op) r) (ho' : OpR X (compareOp op') r') (oo : Op2 g (fun S x y => (cop S o x y).map fun k => .p (.bool k)) r)
    (oo' : Op2 g (fun S x y => (cop S o' x y).map fun k => .p (.bool k)) r') (ha : PE X a (rE g W (evE cal ia))) (hb : PE X b (rE g W (evE cal ib))) (hc : PE X c (rE g W (evE cal ic))) (hm : lastMarks [op, op'] [b, c] = false := by with_unfolding_all rfl) :
    PE X (.Compare a [op, op'] [b, c] pos) (rE g W (evE cal (.chain o o' ia ib ic))) := pe_imp (pe_chain ho ho' ha hb hc hm) fun _ _ _ h => tChain_of oo oo' h
theorem t_chain {op op' : CmpOp} {o o' : COp} {r r' : R2} {a b c : Expr} {ia ib ic : E} (ho : OpR X (compareOp op) r) (ho' : OpR X (compareOp op') r') (oo : Op2 g (fun S x y => (cop S o x y).map fun k => .p (.bool k)) r)
    (oo' : Op2 g (fun S x y => (cop S o' x y).map fun k => .p (.bool k)) r') (ha : PE X a (rE g W (evE cal ia))) (hb : PE X b (rE g W (evE cal ib))) (hc : PE X c (rE g W (evE cal ic))) (hm : lastMarks [op, op'] [b, c] = false := by with_unfolding_all rfl) :
    PT X (.Compare a [op, op'] [b, c] pos) (rT g W (evE cal (.chain o o' ia ib ic))) := pt_imp (pt_chain ho ho' ha hb hc hm) fun _ _ _ h => t_of (fun _ q => tChain_of oo oo' q) h

/-! ### and, or, not -/
theorem asBool_of {d : D} {b : Bool} (h : asBool d = some b) : d = .p (.bool b) := by
  cases d with
  | p d => cases d <;> simp [asBool] at h; rw [h]
  | ref _ => simp [asBool] at h
  | fn _ => simp [asBool] at h
theorem e_one {op : BoolOp} {a : Expr} {m : Sl → M D} (h : PE X a (rE g W m)) : PE X (.BoolOp op [a] pos) (rE g W m) := pe_one h
theorem andV_of {ma mb : Sl → M D} {σ : L2.St} {H : Hp} {Q : VK} (h : rE g W (fun ρ => M.bind (ma ρ) fun x => M.bind (M.opt (asBool x)) fun k => if k = true then mb ρ else M.pure (.p (.bool false))) σ H Q) :
    tAndV (rE g W ma) (rE g W mb) σ H Q := by
  obtain ⟨α, S, h⟩ := h
  refine ⟨α, S, h.bind.imp fun x S1 α1 H1 e1 a1 h1 v tv => ?_⟩
  obtain ⟨k, hk, q⟩ := (rAt.bind (m := fun _ => M.opt (asBool x)) (f := fun k ρ => if k = true then mb ρ else M.pure (.p (.bool false))) h1).opt
  rw [asBool_of hk] at tv
  cases tv
  refine ⟨k, rfl, ?_⟩
  have q := q α1 H1 (Ext.refl _ _) a1
  cases k with
  | true => exact ⟨α1, S1, q⟩
  | false => exact q.here α1 H1 (Ext.refl _ _) a1 _ (.bl false)
theorem orV_of {ma mb : Sl → M D} {σ : L2.St} {H : Hp} {Q : VK} (h : rE g W (fun ρ => M.bind (ma ρ) fun x => M.bind (M.opt (asBool x)) fun k => if k = true then M.pure (.p (.bool true)) else mb ρ) σ H Q) :
    tOrV (rE g W ma) (rE g W mb) σ H Q := by
  obtain ⟨α, S, h⟩ := h
  refine ⟨α, S, h.bind.imp fun x S1 α1 H1 e1 a1 h1 v tv => ?_⟩
  obtain ⟨k, hk, q⟩ := (rAt.bind (m := fun _ => M.opt (asBool x)) (f := fun k ρ => if k = true then M.pure (.p (.bool true)) else mb ρ) h1).opt
  rw [asBool_of hk] at tv
  cases tv
  refine ⟨k, rfl, ?_⟩
  have q := q α1 H1 (Ext.refl _ _) a1
  cases k with
  | true => exact q.here α1 H1 (Ext.refl _ _) a1 _ (.bl true)
  | false => exact ⟨α1, S1, q⟩
theorem e_and {a b : Expr} {rest : List Expr} {ia ib : E} (ha : PE X a (rE g W (evE cal ia))) (hb : PE X (.BoolOp .And (b :: rest) pos) (rE g W (evE cal ib))) : PE X (.BoolOp .And (a :: b :: rest) pos) (rE g W (evE cal (.and ia ib))) := pe_imp (pe_and ha hb) fun _ _ _ h => andV_of h
theorem e_or {a b : Expr} {rest : List Expr} {ia ib : E} (ha : PE X a (rE g W (evE cal ia))) (hb : PE X (.BoolOp .Or (b :: rest) pos) (rE g W (evE cal ib))) : PE X (.BoolOp .Or (a :: b :: rest) pos) (rE g W (evE cal (.or ia ib))) := pe_imp (pe_or ha hb) fun _ _ _ h => orV_of h
theorem e_not {a : Expr} {ia : E} (ha : PE X a (rE g W (evE cal ia))) : PE X (.UnaryOp .Not a pos) (rE g W (evE cal (.not ia))) := pe_imp (pe_not ha) fun σ H Q h => by
  obtain ⟨α, S, h⟩ := h
  refine ⟨α, S, (rAt.bind (m := evE cal ia) (f := fun x _ => M.bind (M.opt (asBool x)) fun k => M.pure (D.p (.bool (!k)))) h).imp fun x S1 α1 H1 e1 a1 h1 v tv => ?_⟩
  obtain ⟨k, hk, q⟩ := (rAt.bind (m := fun _ => M.opt (asBool x)) (f := fun k _ => M.pure (D.p (.bool (!k)))) h1).opt
  rw [asBool_of hk] at tv
  cases tv
  exact ⟨k, rfl, (q α1 H1 (Ext.refl _ _) a1).here α1 H1 (Ext.refl _ _) a1 _ (.bl _)⟩
/-- tests: the answer of the first, then the rest -/
theorem and_of {ma mb : Sl → M D} {σ : L2.St} {H : Hp} {Q : Bool → Hp → Prop} (h : rT g W (fun ρ => M.bind (ma ρ) fun x => M.bind (M.opt (asBool x)) fun k => if k = true then mb ρ else M.pure (.p (.bool false))) σ H Q) :
    tAnd (rT g W ma) (rT g W mb) σ H Q := by
  obtain ⟨α, S, h⟩ := h
  refine ⟨α, S, h.bind.imp fun x S1 α1 H1 e1 a1 h1 => ?_⟩
  obtain ⟨k, hk, q⟩ := (rAt.bind (m := fun _ => M.opt (asBool x)) (f := fun k ρ => if k = true then mb ρ else M.pure (.p (.bool false))) h1).opt
  refine ⟨k, asBool_of hk, ?_⟩
  have q := q α1 H1 (Ext.refl _ _) a1
  cases k with
  | true => exact ⟨α1, S1, q⟩
  | false =>
    obtain ⟨b, e, q⟩ := q.here α1 H1 (Ext.refl _ _) a1
    cases e
    exact q
theorem or_of {ma mb : Sl → M D} {σ : L2.St} {H : Hp} {Q : Bool → Hp → Prop} (h : rT g W (fun ρ => M.bind (ma ρ) fun x => M.bind (M.opt (asBool x)) fun k => if k = true then M.pure (.p (.bool true)) else mb ρ) σ H Q) :
    tOr (rT g W ma) (rT g W mb) σ H Q := by
  obtain ⟨α, S, h⟩ := h
  refine ⟨α, S, h.bind.imp fun x S1 α1 H1 e1 a1 h1 => ?_⟩
  obtain ⟨k, hk, q⟩ := (rAt.bind (m := fun _ => M.opt (asBool x)) (f := fun k ρ => if k = true then M.pure (.p (.bool true)) else mb ρ) h1).opt
  refine ⟨k, asBool_of hk, ?_⟩
  have q := q α1 H1 (Ext.refl _ _) a1
  cases k with
  | true =>
    obtain ⟨b, e, q⟩ := q.here α1 H1 (Ext.refl _ _) a1
    cases e
    exact q
  | false => exact ⟨α1, S1, q⟩
theorem w_and1 {a : Expr} {m : Sl → M D} (h : PT X a (rT g W m)) : PW X (.BoolOp .And [a] pos) (rT g W m) := pw_and1 h
theorem w_or1 {a : Expr} {m : Sl → M D} (h : PT X a (rT g W m)) : PW X (.BoolOp .Or [a] pos) (rT g W m) := pw_or1 h
theorem w_and {a b : Expr} {rest : List Expr} {ia ib : E} (ha : PT X a (rT g W (evE cal ia))) (hb : PW X (.BoolOp .And (b :: rest) pos) (rT g W (evE cal ib))) : PW X (.BoolOp .And (a :: b :: rest) pos) (rT g W (evE cal (.and ia ib))) := pw_imp (pw_and ha hb) fun _ _ _ h => and_of h
theorem w_or {a b : Expr} {rest : List Expr} {ia ib : E} (ha : PT X a (rT g W (evE cal ia))) (hb : PW X (.BoolOp .Or (b :: rest) pos) (rT g W (evE cal ib))) : PW X (.BoolOp .Or (a :: b :: rest) pos) (rT g W (evE cal (.or ia ib))) := pw_imp (pw_or ha hb) fun _ _ _ h => or_of h
theorem t_w {e : Expr} {m : Sl → M D} (h : PW X e (rT g W m)) : PT X e (rT g W m) := h.pt
theorem t_not {a : Expr} {ia : E} (ha : PT X a (rT g W (evE cal ia))) : PT X (.UnaryOp .Not a pos) (rT g W (evE cal (.not ia))) := pt_imp (pt_not ha) fun σ H Q h => by
  obtain ⟨α, S, h⟩ := h
  refine ⟨α, S, (rAt.bind (m := evE cal ia) (f := fun x _ => M.bind (M.opt (asBool x)) fun k => M.pure (D.p (.bool (!k)))) h).imp fun x S1 α1 H1 e1 a1 h1 => ?_⟩
  obtain ⟨k, hk, q⟩ := (rAt.bind (m := fun _ => M.opt (asBool x)) (f := fun k _ => M.pure (D.p (.bool (!k)))) h1).opt
  obtain ⟨b, e, q⟩ := (q α1 H1 (Ext.refl _ _) a1).here α1 H1 (Ext.refl _ _) a1
  cases e
  exact ⟨k, asBool_of hk, q⟩
theorem e_ifx {c a b : Expr} {ic ia ib : E} (hc : PT X c (rT g W (evE cal ic))) (ha : PE X a (rE g W (evE cal ia))) (hb : PE X b (rE g W (evE cal ib))) : PE X (.IfExp c a b pos) (rE g W (evE cal (.ifx ic ia ib))) := pe_imp (pe_ifExp hc ha hb) fun σ H Q h => by
  obtain ⟨α, S, h⟩ := h
  refine ⟨α, S, (rAt.bind (m := evE cal ic) (f := fun x ρ => M.bind (M.opt (asBool x)) fun k => if k = true then evE cal ia ρ else evE cal ib ρ) h).imp fun x S1 α1 H1 e1 a1 h1 => ?_⟩
  obtain ⟨k, hk, q⟩ := (rAt.bind (m := fun _ => M.opt (asBool x)) (f := fun k ρ => if k = true then evE cal ia ρ else evE cal ib ρ) h1).opt
  refine ⟨k, asBool_of hk, ?_⟩
  have q := q α1 H1 (Ext.refl _ _) a1
  cases k with
  | true => exact ⟨α1, S1, q⟩
  | false => exact ⟨α1, S1, q⟩
end
end Ir
set_option Elab.async false
set_option maxRecDepth 100000
set_option maxHeartbeats 4000001
/-! Operators by values, calls, displays, subscripts, built-ins. -/
namespace Ir
open PySem L2 PySem.Spec PyProof.Rows

section
variable {g : Gc} {α α' : List Addr} {H H' : Hp} {S S' : Sto}
theorem Ext.none {K : PySem.W.Frag} {ph : Nat → Option Addr} (e : Ext α α' H H') (x' : At K ph α' H' S') {p : Addr} (h : H' p = none) : H p = none := by
  cases q : H p with
  | none => rfl
  | some o =>
    by_cases m : p ∈ α
    · obtain ⟨i, hi, e1⟩ := List.getElem_of_mem m
      have m' := mem_at (e.pre i p (by rw [List.getElem?_eq_getElem hi, e1]))
      rcases x'.mut m' with ⟨_, z⟩ | ⟨_, z⟩ <;> (rw [h] at z; cases z)
    · rw [e.keep p o q m] at h; cases h
theorem At.notin {K : PySem.W.Frag} {ph : Nat → Option Addr} (x : At K ph α H S) {p : Addr} (h : H p = none) : p ∉ α := fun m => by
  rcases x.mut m with ⟨_, z⟩ | ⟨_, z⟩ <;> (rw [h] at z; cases z)
theorem Ext.notin {p : Addr} {o : HO} (e : Ext α α' H H') (h : H p = some o) (n : p ∉ α) : p ∉ α' := fun m => by
  rcases e.new p m with z | z
  · exact n z
  · rw [h] at z; cases z

/-! ### operators -/
theorem two_p {f : D → D → Option D} {dx dy dz : D} (h : f dx dy = some dz) (h1 : ∀ i y, f (.ref i) y = none) (h2 : ∀ i y, f (.fn i) y = none) (h3 : ∀ x i, f (.p x) (.ref i) = none) (h4 : ∀ x i, f (.p x) (.fn i) = none) :
    ∃ x y, dx = .p x ∧ dy = .p y := by
  cases dx with
  | p x =>
    cases dy with
    | p y => exact ⟨x, y, rfl, rfl⟩
    | ref i => rw [h3] at h; cases h
    | fn i => rw [h4] at h; cases h
  | ref i => rw [h1] at h; cases h
  | fn i => rw [h2] at h; cases h
/-- two ints -/
theorem o_int {o : BOp} {C : Int → Int → Prop} {gv : Int → Int → V} {f : Int → Int → Int} (hg : ∀ i j, gv i j = .int (f i j))
    (h : ∀ dx dy dz, bop o dx dy = some dz → ∃ i j, dx = .p (.int i) ∧ dy = .p (.int j) ∧ C i j ∧ dz = .p (.int (f i j))) : Op2 g (fun _ => bop o) (rI C gv) := by
  intro α H S dx dy dz x y Q a tx ty hz k
  obtain ⟨i, j, rfl, rfl, c, rfl⟩ := h _ _ _ hz
  cases tx
  cases ty
  exact ⟨i, j, rfl, rfl, c, by rw [hg]; exact k α H (Ext.refl _ _) a _ (.int _)⟩
theorem o_sub : Op2 g (fun _ => bop .sub) (rI0 fun i j => .int (i - j)) := by
  intro α H S dx dy dz x y Q a tx ty hz k
  have h : bop .sub dx dy = some dz := hz
  unfold bop at h
  split at h <;> first | (cases h; done) | skip
  all_goals (try (exfalso; simp_all; done))
  cases h
  cases tx
  cases ty
  exact ⟨_, _, rfl, rfl, k α H (Ext.refl _ _) a _ (.int _)⟩
/-- a new tuple, its object known -/
def rCatF (K : PySem.W.Frag) : R2 := fun x y H Q => ∃ a b xs ys, x = .ref a ∧ y = .ref b ∧ SqT K H a xs ∧ SqT K H b ys ∧ xs.length + ys.length ≤ sizeLine ∧
  (xs = [] → Q (.ref b) H) ∧ (ys = [] → Q (.ref a) H) ∧ ∀ p o, H p = none → o.dict = none → Q (.ref p) (upd H p (.frz o (.tup (xs ++ ys))))
theorem frz_new {P : Program} {w : World} {H : Hp} {h : Heap} {vs : List V} {us : List Value} (r : Vals vs us) (hz : vs.length ≤ sizeLine) :
    ObjOk P w H (h.push { cls := .type "tuple", data := .seq us.toArray }) h.objs.size (.frz { cls := .type "tuple", data := .seq us.toArray } (.tup vs)) :=
  ⟨Heap.get?_push_size _ rfl, hz, us, r, IsTup.new _ _⟩
theorem op_catF {X : Cx} : OpR X (binaryOp .Add) (rCatF X.K) := by
  intro pins s σ H x y v u Q I rx ry h
  obtain ⟨a, b, xs, ys, rfl, rfl, ha, hb, hz, q0, q1, q2⟩ := h
  cases rx
  cases ry
  obtain ⟨us, r1, p1, _⟩ := I.tuple ha
  obtain ⟨ws, r2, p2, _⟩ := I.tuple hb
  by_cases hx : us = []
  · subst hx
    cases r1
    exact cat_tup0 p1 p2 ⟨.ref b, H, I, rfl, q0 rfl⟩
  · refine HT.cat_tup p1 p2 hx (fun z => ⟨.ref a, H, I, rfl, q1 (by subst z; cases r2; rfl)⟩) (fun z => ?_) (by rw [← r1.length, ← r2.length]; exact hz)
    refine ⟨.ref s.heap.objs.size, upd H s.heap.objs.size (.frz { cls := .type "tuple", data := .seq (us ++ ws).toArray } (.tup (xs ++ ys))), I.laid (t' := s.toks) (fun b o q => Heap.get?_push_of_some _ q) (Nat.le_refl _) ?_, rfl, q2 _ _ (I.hok.fresh (Nat.le_refl _)) rfl⟩
    exact frz_new (r1.append r2) (by rw [List.length_append]; exact hz)
theorem o_add : Op2 g (fun _ => bop .add) (fun x y H Q => (rI0 (fun i j => .int (i + j)) x y H Q ∨ ∃ i j, x = .str i ∧ y = .str j ∧ i.length + j.length ≤ sizeLine ∧ Q (.str (i ++ j)) H) ∨ rCatF g.K x y H Q) := by
  intro α H S dx dy dz x y Q a tx ty hz k
  have h : bop .add dx dy = some dz := hz
  unfold bop at h
  split at h <;> first | (cases h; done) | skip
  all_goals (try (exfalso; simp_all; done))
  · cases h
    cases tx
    cases ty
    exact .inl (.inl ⟨_, _, rfl, rfl, k α H (Ext.refl _ _) a _ (.int _)⟩)
  · split at h
    · rename_i hl
      cases h
      cases tx
      cases ty
      exact .inl (.inr ⟨_, _, rfl, rfl, hl, k α H (Ext.refl _ _) a _ (.str _)⟩)
    · cases h
  · split at h
    · rename_i hl
      cases h
      cases tx with
      | @tup b xs _ hq ha =>
        cases ty with
        | @tup c ys _ hr hb =>
          refine .inr ⟨b, c, xs, ys, rfl, rfl, hq.sq, hr.sq, by rw [← ha.length, ← hb.length]; exact hl, fun e => ?_, fun e => ?_, fun p o hp ho => ?_⟩
          · subst e
            cases ha
            exact k α H (Ext.refl _ _) a _ (.tup hr hb)
          · subst e
            cases hb
            exact k α H (Ext.refl _ _) a _ (.tup hq (by rw [List.append_nil]; exact ha))
          · obtain ⟨e1, a1⟩ := At.fresh a hp (u := .frz o (.tup (xs ++ ys)))
            exact k α _ e1 a1 _ (.tup (.inl ⟨o, upd_same, ho⟩) (TpA.append (ha.keep (e1.kt a)) (hb.keep (e1.kt a))))
    · cases h
theorem o_mul : Op2 g (fun _ => bop .mul) (rI CMul fun i j => .int (i * j)) := by
  refine o_int (f := fun i j => i * j) (fun _ _ => rfl) fun dx dy dz h => ?_
  unfold bop at h
  split at h <;> first | (cases h; done) | skip
  all_goals (try (exfalso; simp_all; done))
  split at h
  · rename_i c
    cases h
    exact ⟨_, _, rfl, rfl, c, rfl⟩
  · cases h
theorem o_fdiv : Op2 g (fun _ => bop .fdiv) (rI CDivW fun i j => .int (i / j)) := by
  refine o_int (f := fun i j => i / j) (fun _ _ => rfl) fun dx dy dz h => ?_
  unfold bop at h
  split at h <;> first | (cases h; done) | skip
  all_goals (try (exfalso; simp_all; done))
  split at h
  · rename_i c
    cases h
    exact ⟨_, _, rfl, rfl, c, rfl⟩
  · cases h
theorem o_mod : Op2 g (fun _ => bop .mod) (rI (fun _ j => 0 < j) fun i j => .int (i % j)) := by
  refine o_int (f := fun i j => i % j) (fun _ _ => rfl) fun dx dy dz h => ?_
  unfold bop at h
  split at h <;> first | (cases h; done) | skip
  all_goals (try (exfalso; simp_all; done))
  split at h
  · rename_i c
    cases h
    exact ⟨_, _, rfl, rfl, c, rfl⟩
  · cases h
theorem o_pow : Op2 g (fun _ => bop .pow) (rI CPow fun i j => .int (i ^ j.toNat)) := by
  refine o_int (f := fun i j => i ^ j.toNat) (fun _ _ => rfl) fun dx dy dz h => ?_
  unfold bop at h
  split at h <;> first | (cases h; done) | skip
  all_goals (try (exfalso; simp_all; done))
  split at h
  · rename_i c
    cases h
    exact ⟨_, _, rfl, rfl, c, rfl⟩
  · cases h
abbrev OpC (g : Gc) (o : COp) (r : R2) := Op2 g (fun S x y => (cop S o x y).map fun k => .p (.bool k)) r
theorem o_cmpI {o : COp} {f : Int → Int → Bool} (h : ∀ S dx dy k, cop S o dx dy = some k → ∃ i j, dx = .p (.int i) ∧ dy = .p (.int j) ∧ k = f i j) : OpC g o (rI0 fun i j => .bl (f i j)) := by
  intro α H S dx dy dz x y Q a tx ty hz k
  cases e : cop S o dx dy with
  | none => simp [e] at hz
  | some b =>
    simp [e] at hz
    subst hz
    obtain ⟨i, j, rfl, rfl, rfl⟩ := h _ _ _ _ e
    cases tx
    cases ty
    exact ⟨i, j, rfl, rfl, k α H (Ext.refl _ _) a _ (.bl _)⟩
theorem o_lt : OpC g .lt (rI0 fun i j => .bl (decide (i < j))) := o_cmpI fun S dx dy k h => by
  unfold cop at h
  split at h <;> first | (cases h; done) | skip
  all_goals (try (exfalso; simp_all; done))
  cases h
  exact ⟨_, _, rfl, rfl, rfl⟩
theorem o_le : OpC g .le (rI0 fun i j => .bl (decide (i ≤ j))) := o_cmpI fun S dx dy k h => by
  unfold cop at h
  split at h <;> first | (cases h; done) | skip
  all_goals (try (exfalso; simp_all; done))
  cases h
  exact ⟨_, _, rfl, rfl, rfl⟩
theorem o_gt : OpC g .gt (rI0 fun i j => .bl (decide (j < i))) := o_cmpI fun S dx dy k h => by
  unfold cop at h
  split at h <;> first | (cases h; done) | skip
  all_goals (try (exfalso; simp_all; done))
  cases h
  exact ⟨_, _, rfl, rfl, rfl⟩
theorem o_ge : OpC g .ge (rI0 fun i j => .bl (decide (j ≤ i))) := o_cmpI fun S dx dy k h => by
  unfold cop at h
  split at h <;> first | (cases h; done) | skip
  all_goals (try (exfalso; simp_all; done))
  cases h
  exact ⟨_, _, rfl, rfl, rfl⟩
theorem eqv_scal {K : PySem.W.Frag} {dx dy : PyData} {x y : V} (tx : Tp K H dx x) (ty : Tp K H dy y) (h : sameScal dx dy = true) : scal x y = true ∧ decide (x = y) = PyData.eqv dx dy := by
  cases dx <;> cases dy <;> first | (simp [sameScal] at h; done) | skip
  all_goals (cases tx; cases ty; refine ⟨rfl, ?_⟩)
  all_goals first | (simp [PyData.eqv]; done) | exact dec_bl.trans (by simp [PyData.eqv]) | exact dec_int.trans (by simp [PyData.eqv]) | exact dec_str.trans (by simp [PyData.eqv])
theorem o_eq : OpC g .eq (fun x y H Q => rEq x y H Q ∨ rEqD g.K x y H Q) := by
  intro α H S dx dy dz x y Q a tx ty hz k
  have hz : (eqD dx dy).map (fun k => D.p (.bool k)) = some dz := hz
  unfold eqD at hz
  split at hz
  · split at hz
    · rename_i u v hs
      obtain ⟨h1, h2⟩ := eqv_scal tx ty hs
      simp at hz
      subst hz
      exact .inl ⟨h1, by rw [h2]; exact k α H (Ext.refl _ _) a _ (.bl _)⟩
    · split at hz
      · rename_i hs
        rw [Bool.and_eq_true] at hs
        simp at hz
        subst hz
        exact .inr ⟨_, _, Tp.dp tx, Tp.dp ty, hs.1, hs.2, k α H (Ext.refl _ _) a _ (.bl _)⟩
      · simp at hz
  · simp at hz
theorem o_ne : OpC g .ne (fun x y H Q => rNe x y H Q ∨ rNeD g.K x y H Q) := by
  intro α H S dx dy dz x y Q a tx ty hz k
  have hz : ((eqD dx dy).map (!·)).map (fun k => D.p (.bool k)) = some dz := hz
  unfold eqD at hz
  split at hz
  · split at hz
    · rename_i u v hs
      obtain ⟨h1, h2⟩ := eqv_scal tx ty hs
      simp at hz
      subst hz
      exact .inl ⟨h1, by rw [h2]; exact k α H (Ext.refl _ _) a _ (.bl _)⟩
    · split at hz
      · rename_i hs
        rw [Bool.and_eq_true] at hs
        simp at hz
        subst hz
        exact .inr ⟨_, _, Tp.dp tx, Tp.dp ty, hs.1, hs.2, k α H (Ext.refl _ _) a _ (.bl _)⟩
      · simp at hz
  · simp at hz
theorem flat_of {K : PySem.W.Frag} {d : PyData} {v : V} (t : Tp K H d v) (h : flatP d = true) : flatV v = true := by
  cases d <;> first | (simp [flatP] at h; done) | skip
  all_goals (cases t; rfl)
theorem eqV_of {K : PySem.W.Frag} {d e : PyData} {v u : V} (t : Tp K H d v) (t' : Tp K H e u) (h : flatP d = true) (h' : flatP e = true) : eqV v u = PyData.eqv d e := by
  cases d <;> first | (simp [flatP] at h; done) | skip
  all_goals (cases e <;> first | (simp [flatP] at h'; done) | skip)
  all_goals (cases t; cases t'; first | rfl | (simp [eqV, PyData.eqv]; done))
theorem flats_of {K : PySem.W.Frag} : ∀ {ds : List PyData} {vs : List V}, TpA K H ds vs → ds.all flatP = true → vs.all flatV = true
  | [], _, h, _ => by cases h; rfl
  | d :: ds, _, h, q => by
    cases h with
    | cons a b =>
      rw [List.all_cons, Bool.and_eq_true] at q
      rw [List.all_cons, Bool.and_eq_true]
      exact ⟨flat_of a q.1, flats_of b q.2⟩
theorem inV_of {K : PySem.W.Frag} {d : PyData} {v : V} (t : Tp K H d v) (h : flatP d = true) : ∀ {ds : List PyData} {vs : List V}, TpA K H ds vs → ds.all flatP = true → inV v vs = ds.any fun y => PyData.eqv y d
  | [], _, q, _ => by cases q; rfl
  | e :: ds, _, q, r => by
    cases q with
    | cons a b =>
      rw [List.all_cons, Bool.and_eq_true] at r
      have ih := inV_of t h b r.2
      unfold inV at ih ⊢
      rw [List.any_cons, List.any_cons, ih, eqV_of a t r.1 h]
theorem key_V {K : PySem.W.Frag} {ph : Nat → Option Addr} {d : D} {v : V} {k : Key} (t : Ir.Tl K ph α H d v) (h : keyOf d = some k) : v = kV k := by
  cases d with
  | p d =>
    cases d <;> simp [keyOf] at h
    · subst h; cases t; rfl
    · subst h; cases t; rfl
  | ref _ => simp [keyOf] at h
  | fn _ => simp [keyOf] at h
theorem val_of {K : PySem.W.Frag} {ph : Nat → Option Addr} {k : Key} : ∀ {kvs : List (Key × D)} {ws : List (Key × V)}, Paired (fun (p : Key × D) (q : Key × V) => p.1 = q.1 ∧ Ir.Tl K ph α H p.2 q.2) kvs ws →
    match valD kvs k, valV ws k with
    | some d, some v => Ir.Tl K ph α H d v
    | .none, .none => True
    | _, _ => False
  | [], _, h => by cases h; trivial
  | (k', d) :: r, _, h => by
    cases h with
    | @cons _ q _ l2 a b =>
      obtain ⟨k2, v⟩ := q
      obtain ⟨e, t⟩ := a
      have e : k' = k2 := e
      subst e
      by_cases z : k' = k
      · have h1 : valD ((k', d) :: r) k = some d := by simp [valD, z]
        have h2 : valV ((k', v) :: l2) k = some v := valV_pos z
        rw [h1, h2]
        exact t
      · have h1 : valD ((k', d) :: r) k = valD r k := by simp [valD, z]
        have h2 : valV ((k', v) :: l2) k = valV l2 k := valV_neg z
        rw [h1, h2]
        exact val_of b
/-- in: a text in a text, a flat value in a tuple of such, a key in a dict -/
def rInA (K : PySem.W.Frag) (neg : Bool) : R2 := fun x y H Q => (((∃ i j, x = .str i ∧ y = .str j ∧ Q (.bl (if neg then !inStr i j else inStr i j)) H) ∨ rIn K neg x y H Q) ∨ ∃ b ws k, y = .ref b ∧ x = kV k ∧ H b = some (.dK ws) ∧ Q (.bl (if neg then !(valV ws k).isSome else (valV ws k).isSome)) H) ∨
  ∃ d ds, Dp K H x d ∧ Dp K H y (.list ds) ∧ SeqAt.shaped d = true ∧ SeqAt.shaped (.list ds) = true ∧ Q (.bl (if neg then !ds.any fun z => PyData.eqv z d else ds.any fun z => PyData.eqv z d)) H
theorem o_in_ (neg : Bool) {dx dy dz : D} {x y : V} {Q : VK} (a : g.At α H S) (tx : g.Tl α H dx x) (ty : g.Tl α H dy y) {b : Bool} (hz : inD S dx dy = some b) (e : dz = .p (.bool (if neg then !b else b)))
    (k : ∀ v, g.Tl α H dz v → Q v H) : rInA g.K neg x y H Q := by
  subst e
  have k : Q (.bl (if neg then !b else b)) H := k _ (.bl _)
  unfold inD at hz
  split at hz
  · cases hz
    cases tx
    cases ty
    exact .inl (.inl (.inl ⟨_, _, rfl, rfl, k⟩))
  · split at hz
    · rename_i hf
      rw [Bool.and_eq_true] at hf
      cases hz
      cases ty with
      | tup hq ha =>
        refine .inl (.inl (.inr ⟨_, _, rfl, .inr hq.sq, flat_of tx hf.1, flats_of ha hf.2, ?_⟩))
        rw [inV_of tx hf.1 ha hf.2]
        exact k
    · cases hz
  · rename_i j
    split at hz
    · rename_i kvs hj
      obtain ⟨p, ws, h1, h2, h3⟩ := At.dic a hj
      obtain ⟨p', h1', rfl⟩ := ty
      rw [h1] at h1'
      cases h1'
      cases hk : keyOf dx with
      | none => simp [hk] at hz
      | some key =>
        simp [hk] at hz
        have vo := val_of (k := key) h3
        refine .inl (.inr ⟨p, ws, key, rfl, key_V tx hk, h2, ?_⟩)
        have e : (valV ws key).isSome = b := by
          rw [← hz]
          revert vo
          cases valD kvs key <;> cases valV ws key <;> simp
        rw [e]
        exact k
    · rename_i es hj
      cases dx with
      | ref _ => cases hz
      | fn _ => cases hz
      | p dx =>
        cases ep : plainOf es with
        | none => rw [ep] at hz; cases hz
        | some ps =>
          rw [ep] at hz
          have hz : (if SeqAt.shaped dx = true ∧ SeqAt.shaped (.list ps) = true then some (ps.any fun y => PyData.eqv y dx) else none) = some b := hz
          by_cases hs : SeqAt.shaped dx = true ∧ SeqAt.shaped (.list ps) = true
          · rw [if_pos hs] at hz
            cases hz
            obtain ⟨p, xs, h1, h2, h3⟩ := At.lst a hj
            obtain ⟨p', h1', rfl⟩ := ty
            rw [h1] at h1'
            cases h1'
            exact .inr ⟨dx, ps, Tp.dp tx, .lst (SqL.of h2) (TpA.dp (TlA.plain h3 ep)), hs.1, hs.2, k⟩
          · rw [if_neg hs] at hz
            cases hz
    · cases hz
  · cases hz
theorem o_in : OpC g .in_ (rInA g.K false) := by
  intro α H S dx dy dz x y Q a tx ty hz k
  cases e : inD S dx dy with
  | none => have hz : (inD S dx dy).map (fun k => D.p (.bool k)) = some dz := hz; simp [e] at hz
  | some b =>
    have hz : (inD S dx dy).map (fun k => D.p (.bool k)) = some dz := hz
    simp [e] at hz
    exact o_in_ false a tx ty e hz.symm fun v t => k α H (Ext.refl _ _) a v t
theorem o_notin : OpC g .notin (rInA g.K true) := by
  intro α H S dx dy dz x y Q a tx ty hz k
  cases e : inD S dx dy with
  | none => have hz : ((inD S dx dy).map (!·)).map (fun k => D.p (.bool k)) = some dz := hz; simp [e] at hz
  | some b =>
    have hz : ((inD S dx dy).map (!·)).map (fun k => D.p (.bool k)) = some dz := hz
    simp [e] at hz
    exact o_in_ true a tx ty e hz.symm fun v t => k α H (Ext.refl _ _) a v t
theorem tp_none {K : PySem.W.Frag} {d : PyData} {v : V} (t : Tp K H d v) : decide (v = .non) = isNonP d := by
  cases d <;> cases t <;> rfl
theorem o_is : OpC g .is_ (fun x y H Q => rIsB x y H Q ∨ (y = .non ∧ Q (.bl (decide (x = .non))) H)) := by
  intro α H S dx dy dz x y Q a tx ty hz k
  have hz : (cop S .is_ dx dy).map (fun k => D.p (.bool k)) = some dz := hz
  unfold cop at hz
  split at hz <;> first | (simp at hz; done) | skip
  all_goals (try (exfalso; simp_all; done))
  · simp at hz
    subst hz
    cases tx
    cases ty
    exact .inl ⟨_, _, rfl, rfl, k α H (Ext.refl _ _) a _ (.bl _)⟩
  · simp at hz
    subst hz
    cases ty
    exact .inr ⟨rfl, by rw [tp_none tx]; exact k α H (Ext.refl _ _) a _ (.bl _)⟩
theorem o_isnot : OpC g .isnot (fun x y H Q => (∃ a b : Bool, x = .bl a ∧ y = .bl b ∧ Q (.bl (!decide (a = b))) H) ∨ (y = .non ∧ Q (.bl (!decide (x = .non))) H)) := by
  intro α H S dx dy dz x y Q a tx ty hz k
  have hz : (cop S .isnot dx dy).map (fun k => D.p (.bool k)) = some dz := hz
  unfold cop at hz
  split at hz <;> first | (simp at hz; done) | skip
  all_goals (try (exfalso; simp_all; done))
  · simp at hz
    subst hz
    cases tx
    cases ty
    exact .inl ⟨_, _, rfl, rfl, by simpa using k α H (Ext.refl _ _) a _ (.bl _)⟩
  · simp at hz
    subst hz
    cases ty
    exact .inr ⟨rfl, by rw [tp_none tx]; exact k α H (Ext.refl _ _) a _ (.bl _)⟩
end
end Ir
set_option Elab.async false
set_option maxRecDepth 100000
set_option maxHeartbeats 4000001
namespace Ir
open PySem L2 PySem.Spec PyProof.Rows

section
variable {g : Gc} {α α' : List Addr} {H H' : Hp} {S S' : Sto}
/-! ### subscripts -/
theorem atI_P {K : PySem.W.Frag} {ds : List PyData} {xs : List V} {i : Int} {d : PyData} (h : TpA K H ds xs) (e : atI ds i = some d) : ∃ v, atI xs i = some v ∧ Tp K H d v := by
  unfold atI at e ⊢
  rw [← h.length]
  cases q : ixN ds.length i with
  | none => rw [q] at e; cases e
  | some j => rw [q] at e; exact h.get e
theorem atI_D {F : D → V → Prop} {ds : List D} {xs : List V} {i : Int} {d : D} (h : Paired F ds xs) (e : atI ds i = some d) : ∃ v, atI xs i = some v ∧ F d v := by
  unfold atI at e ⊢
  rw [← Paired.length h]
  cases q : ixN ds.length i with
  | none => rw [q] at e; cases e
  | some j => rw [q] at e; exact Paired.get h e
theorem o_get : Op2 g getI (rIx g.K) := by
  intro α H S dx dy dz x y Q a tx ty hz k
  have h : getI S dx dy = some dz := hz
  unfold getI at h
  split at h
  · cases e : atI _ _ with
    | none => rw [e] at h; cases h
    | some d =>
      rw [e] at h
      cases h
      cases ty
      cases tx with
      | tup hq ha =>
        obtain ⟨v, h1, h2⟩ := atI_P ha e
        exact .inr (.inl ⟨_, _, _, v, rfl, rfl, hq.sq, h1, k α H (Ext.refl _ _) a _ h2⟩)
  · split at h
    · rename_i hl
      cases e : atI _ _ with
      | none => rw [e] at h; cases h
      | some c =>
        rw [e] at h
        cases h
        cases tx
        cases ty
        exact .inr (.inr ⟨_, _, c, rfl, rfl, hl, e, k α H (Ext.refl _ _) a _ (.str _)⟩)
    · cases h
  · split at h
    · rename_i hj
      obtain ⟨b, xs, h1, h2, h3⟩ := At.lst a hj
      obtain ⟨b', h1', rfl⟩ := tx
      rw [h1] at h1'
      cases h1'
      cases ty
      obtain ⟨v, h4, h5⟩ := atI_D h3 h
      exact .inl ⟨b, xs, _, v, rfl, rfl, SqL.of h2, h4, k α H (Ext.refl _ _) a v h5⟩
    · cases h
  · cases h
end
section
variable {X : Cx} {g : Gc} {W : WX} {cal : Nat → List D → M D} {pos : Pos}
theorem e_idx {a b : Expr} {ia ib : E} (hK : X.K = g.K) (ha : PE X a (rE g W (evE cal ia))) (hb : PE X b (rE g W (evE cal ib))) (hs : PlainIx b := by exact fun _ _ => rfl) : PE X (.Subscript a b pos) (rE g W (evE cal (.idx ia ib))) := by
  have h := ix_seq (X := X)
  rw [hK] at h
  exact pe_imp (pe_ix h ha hb hs) fun _ _ _ h => tOp_of o_get h
theorem cut_P {K : PySem.W.Frag} {H : Hp} {ds : List PyData} {xs : List V} (h : TpA K H ds xs) (lo hi : Option Int) : TpA K H (cutP ds lo hi) (cutV xs lo hi) := by
  unfold cutP cutV
  rw [h.length]
  exact (h.drop _).take _
theorem cut_whole {xs : List V} {lo hi : Option Int} (h : HT.sIx xs.length 0 lo = 0 ∧ HT.sIx xs.length xs.length hi = xs.length) : cutV xs lo hi = xs := by
  unfold cutV
  rw [h.1, h.2]
  simp
/-- a written part of a slice: left out, or an int -/
def tPt (o : Option Int) : TO := fun _ H Q => Q o H
theorem pt_none : PO X none (tPt none) := ⟨fun pins s σ H Q I h => po_none.run pins s σ H Q I h⟩
theorem pt_int {i : Int} {j : Nat} {p : Pos} : PO X (some (.Constant (.int i) j p)) (tPt (some i)) := ⟨fun pins s σ H Q I h => (po_some pe_int).run pins s σ H Q I ⟨i, rfl, h⟩⟩
theorem pt_neg {i : Int} {j : Nat} {p p2 : Pos} : PO X (some (.UnaryOp .USub (.Constant (.int i) j p) p2)) (tPt (some (-i))) := ⟨fun pins s σ H Q I h => (po_some (pe_un un_neg pe_int)).run pins s σ H Q I ⟨i, rfl, -i, rfl, h⟩⟩
/-- t[lo:hi]: the whole of it is t itself, else a new tuple, its object known -/
def rSlF (K : PySem.W.Frag) : V → Option Int → Option Int → Hp → VK → Prop := fun x lo hi H Q => ∃ a xs, x = .ref a ∧ SqT K H a xs ∧
  (HT.sIx xs.length 0 lo = 0 ∧ HT.sIx xs.length xs.length hi = xs.length → Q (.ref a) H) ∧ ∀ p o, H p = none → o.dict = none → Q (.ref p) (upd H p (.frz o (.tup (cutV xs lo hi))))
theorem sl_tupF : SlR X (rSlF X.K) := by
  intro pins s σ H x v vl vu lo hi sl Q I rx hs pl pu h
  obtain ⟨a, xs, rfl, hx, q1, q2⟩ := h
  cases rx
  obtain ⟨us, r, ht, hz⟩ := I.tuple hx
  have hl : us.toArray.size = xs.length := by rw [List.size_toArray, ← r.length]
  refine ⟨"tuple", _, PyProof.Rows.slot_tuple_getitem.lookup, ht.typeIs, ?_⟩
  by_cases hw : HT.sIx xs.length 0 lo = 0 ∧ HT.sIx xs.length xs.length hi = xs.length
  · exact getItem_tuple_whole ht hs pl pu (by rw [hl]; exact hw) ⟨.ref a, H, I, rfl, q1 hw⟩
  · refine HT.getItem_tuple_cut ht hs pl pu (by rw [hl]; exact hw) ?_ (by rw [hl]; exact hz)
    rw [hl]
    have rc := (r.drop (HT.sIx xs.length 0 lo)).take (HT.sIx xs.length xs.length hi - HT.sIx xs.length 0 lo)
    exact ⟨.ref s.heap.objs.size, _, I.laid (t' := s.toks) (fun b o q => Heap.get?_push_of_some _ q) (Nat.le_refl _) (frz_new rc (Nat.le_trans (cutV_length xs lo hi) hz)), rfl, q2 _ _ (I.hok.fresh (Nat.le_refl _)) rfl⟩
theorem slice_of {x z : D} {v : V} {l h : Option Int} {α1 : List Addr} {S1 : Sto} {H1 : Hp} {Q : VK} (a1 : g.At α1 H1 S1) (tv : g.Tl α1 H1 x v) (hz : sliceD x l h = some z) (k : ∀ α' H', Ext α1 α' H1 H' → g.At α' H' S1 → ∀ v, g.Tl α' H' z v → Q v H') : rSlF g.K v l h H1 Q ∨ rSlS v l h H1 Q := by
  unfold sliceD at hz
  split at hz
  · cases hz
    cases tv with
    | @tup b xs _ hq hv =>
      refine .inl ⟨b, xs, rfl, hq.sq, fun w => ?_, fun p o hp ho => ?_⟩
      · have hc := cut_P hv l h
        rw [cut_whole w] at hc
        exact k α1 H1 (Ext.refl _ _) a1 _ (.tup hq hc)
      · obtain ⟨e2, a2⟩ := At.fresh a1 hp (u := .frz o (.tup (cutV xs l h)))
        exact k α1 _ e2 a2 _ (.tup (.inl ⟨o, upd_same, ho⟩) ((cut_P hv l h).keep (e2.kt a1)))
  · split at hz
    · rename_i hz2
      cases hz
      cases tv
      exact .inr ⟨_, rfl, hz2, k α1 H1 (Ext.refl _ _) a1 _ (.str _)⟩
    · cases hz
  · cases hz
theorem e_slice {a : Expr} {ia : E} {lo hi : Option Expr} {l h : Option Int} {p2 : Pos} (hK : X.K = g.K) (ha : PE X a (rE g W (evE cal ia))) (hl : PO X lo (tPt l)) (hh : PO X hi (tPt h)) : PE X (.Subscript a (.Slice lo hi none p2) pos) (rE g W (evE cal (.slice ia l h))) := by
  have s1 := SlR.or (sl_tupF (X := X)) sl_str
  rw [hK] at s1
  refine pe_imp (pe_slice s1 ha hl hh) fun σ H Q q => ?_
  obtain ⟨α, S, q⟩ := q
  refine ⟨α, S, (rAt.bind (m := evE cal ia) (f := fun x _ => M.opt (sliceD x l h)) q).imp fun x S1 α1 H1 e1 a1 h1 v tv => ?_⟩
  obtain ⟨z, hz, k⟩ := (rAt.opt (o := fun _ => sliceD x l h) h1)
  exact slice_of a1 tv hz k
/-- bounds that are worked out -/
def rB (g : Gc) (W : WX) (m : Sl → M (Option Int)) : TO := fun σ H Q => rM g W m σ H fun l _ _ H' => Q l H'
theorem b_no : PO X none (rB g W (evB cal .no)) := ⟨fun pins s σ H Q I q => po_none.run pins s σ H Q I (by
  obtain ⟨α, S, q⟩ := q
  exact (rAt.here (b := none) q) α H (Ext.refl _ _) q.at_)⟩
theorem b_at {e : Expr} {ie : E} (h : PE X e (rE g W (evE cal ie))) : PO X (some e) (rB g W (evB cal (.at_ ie))) := ⟨fun pins s σ H Q I q => (po_some h).run pins s σ H Q I (by
  obtain ⟨α, S, q⟩ := q
  refine ⟨α, S, (rAt.bind (m := evE cal ie) (f := fun x _ => M.opt ((asInt x).map some)) q).imp fun x S1 α1 H1 e1 a1 h1 v tv => ?_⟩
  obtain ⟨z, hz, k⟩ := (rAt.opt (o := fun _ => (asInt x).map some) h1)
  obtain ⟨i, hi, rfl⟩ := Option.map_eq_some_iff.mp hz
  unfold asInt at hi
  split at hi
  · cases hi
    cases tv
    exact ⟨_, rfl, k α1 H1 (Ext.refl _ _) a1⟩
  · cases hi)⟩
theorem e_slx {a : Expr} {ia : E} {lo hi : Option Expr} {l h : Bd} {p2 : Pos} (hK : X.K = g.K) (ha : PE X a (rE g W (evE cal ia))) (hl : PO X lo (rB g W (evB cal l))) (hh : PO X hi (rB g W (evB cal h))) : PE X (.Subscript a (.Slice lo hi none p2) pos) (rE g W (evE cal (.slx ia l h))) := by
  have s1 := SlR.or (sl_tupF (X := X)) sl_str
  rw [hK] at s1
  refine pe_imp (pe_slice s1 ha hl hh) fun σ H Q q => ?_
  obtain ⟨α, S, q⟩ := q
  refine ⟨α, S, (rAt.bind (m := evE cal ia) (f := fun x ρ => M.bind (evB cal l ρ) fun u => M.bind (evB cal h ρ) fun w => M.opt (sliceD x u w)) q).imp fun x S1 α1 H1 e1 a1 h1 v tv => ?_⟩
  refine ⟨α1, S1, (rAt.bind (m := evB cal l) (f := fun u ρ => M.bind (evB cal h ρ) fun w => M.opt (sliceD x u w)) h1).imp fun u S2 α2 H2 e2 a2 h2 => ?_⟩
  refine ⟨α2, S2, (rAt.bind (m := evB cal h) (f := fun w _ => M.opt (sliceD x u w)) h2).imp fun w S3 α3 H3 e3 a3 h3 => ?_⟩
  obtain ⟨z, hz, k⟩ := (rAt.opt (o := fun _ => sliceD x u w) h3)
  exact slice_of a3 ((tv.ext e2 a1).ext e3 a2) hz k

/-! ### arguments, displays -/
theorem a_nil : PA X [] (rA g W (evEs cal .nil)) := pa_imp pa_nil fun σ H Q h => by
  obtain ⟨α, S, ρ, a, r, h⟩ := h
  exact h α H (Ext.refl _ _) a [] .nil
theorem a_cons {e : Expr} {es : List Expr} {i : E} {is : Es} (h1 : PE X e (rE g W (evE cal i))) (h2 : PA X es (rA g W (evEs cal is))) (hs : starEach (e :: es) X.env = (false, eval e X.env) :: starEach es X.env := by rfl) : PA X (e :: es) (rA g W (evEs cal (.cons i is))) := pa_imp (pa_cons h1 h2 hs) fun σ H Q h => by
  obtain ⟨α, S, h⟩ := h
  refine ⟨α, S, (rAt.bind (m := evE cal i) (f := fun d ρ => M.bind (evEs cal is ρ) fun ds => M.pure (d :: ds)) h).imp fun d S1 α1 H1 e1 a1 h1 v tv => ⟨α1, S1, (rAt.bind (m := evEs cal is) (f := fun ds _ => M.pure (d :: ds)) h1).imp fun ds S2 α2 H2 e2 a2 h2 vs tvs => ?_⟩⟩
  exact h2.here α2 H2 (Ext.refl _ _) a2 _ (.cons (tv.ext e2 a1) tvs)
def tTupF (t : TA) : TE := fun σ H Q => t σ H fun xs H1 => xs.length ≤ sizeLine ∧ ∀ p o, H1 p = none → o.dict = none → Q (.ref p) (upd H1 p (.frz o (.tup xs)))
theorem pe_tupF {es : List Expr} {t : TA} {k : Nat} (h : PA X es t) : PE X (.Tuple es k pos) (tTupF t) := by
  refine ⟨fun pins s σ H Q I q => ?_⟩
  refine wpAny_Tuple_spliced (thn (h.run pos pins s σ H _ I q) fun us s1 ⟨xs, H1, I1, r, z, q⟩ => ⟨by rw [← r.length]; exact z, ?_⟩)
  exact ⟨.ref s1.heap.objs.size, _, I1.laid (t' := s1.toks) (fun b u e => Heap.get?_push_of_some _ e) (Nat.le_refl _) (frz_new r z), rfl, q _ _ (I1.hok.fresh (Nat.le_refl _)) rfl⟩
theorem e_tup {es : List Expr} {is : Es} {k : Nat} (h : PA X es (rA g W (evEs cal is))) : PE X (.Tuple es k pos) (rE g W (evE cal (.tup is))) := pe_imp (pe_tupF h) fun σ H Q q => by
  obtain ⟨α, S, q⟩ := q
  refine ⟨α, S, (rAt.bind (m := evEs cal is) (f := fun ds _ => M.opt (if ds.length ≤ sizeLine then (plainOf ds).map fun ps => D.p (.tuple ps) else none)) q).imp fun ds S1 α1 H1 e1 a1 h1 vs tvs => ?_⟩
  obtain ⟨z, hz, k⟩ := (rAt.opt (o := fun _ => if ds.length ≤ sizeLine then (plainOf ds).map fun ps => D.p (.tuple ps) else none) h1)
  have hz : (if ds.length ≤ sizeLine then (plainOf ds).map fun ps => D.p (.tuple ps) else none) = some z := hz
  split at hz
  · rename_i hl
    cases e : plainOf ds with
    | none => rw [e] at hz; cases hz
    | some ps =>
      rw [e] at hz
      cases hz
      refine ⟨by rw [← Paired.length tvs]; exact hl, fun p o hp ho => ?_⟩
      obtain ⟨e2, a2⟩ := At.fresh a1 hp (u := .frz o (.tup vs))
      exact k α1 _ e2 a2 _ (.tup (.inl ⟨o, upd_same, ho⟩) ((TlA.plain tvs e).keep (e2.kt a1)))
  · cases hz

/-! ### lists on the way -/
/-- p is new since H -/
def rLn (g : Gc) (W : WX) (m : Sl → M (List D)) : TE := fun σ H Q => ∃ α S, rAt g W α S m σ H fun ds _ α' H' => ∀ p xs, H p = none → p ∉ α' → H' p = some (.lst xs) → g.TlA α' H' ds xs → Q (.ref p) H'
theorem l_disp {es : List Expr} {is : Es} (h : PA X es (rA g W (evEs cal is))) : PE X (.List es pos) (rLn g W (evL cal (.disp is))) := pe_imp (pe_lst h) fun σ H Q q => by
  obtain ⟨α, S, q⟩ := q
  have q1 := q
  obtain ⟨ρ, a, r, w⟩ := q
  have w : wp (M.bind (evEs cal is ρ) (fun ds => M.opt (if ds.length ≤ 100000 then some ds else none)) S) _ _ := w
  refine ⟨α, S, ρ, a, r, wp_mono (wp_bind w) (fun ds S1 h1 α1 H1 e1 a1 vs tvs => ?_) fun _ _ z => z⟩
  unfold M.opt at h1
  by_cases hl : ds.length ≤ 100000
  · simp only [hl, if_true] at h1
    refine ⟨by rw [← Paired.length tvs]; exact Nat.le_trans hl (by rw [sizeLine_eq]; decide), fun p hp => ?_⟩
    obtain ⟨e2, a2⟩ := At.fresh a1 hp (u := .lst vs)
    exact h1 α1 _ (e1.trans e2) a2 p vs (e1.none a1 hp) (a1.notin hp) upd_same (TlA.ext e2 a1 tvs)
  · simp only [hl, if_false] at h1
    exact h1.elim
theorem e_lst {e : Expr} {l : L} (h : PE X e (rLn g W (evL cal l))) : PE X e (rE g W (evE cal (.lst l))) := pe_imp h fun σ H Q q => by
  obtain ⟨α, S, ρ, a, r, w⟩ := q
  have w : wp (M.bind (evL cal l ρ) (fun ds => alloc (.lst ds)) S) _ _ := w
  refine ⟨α, S, ρ, a, r, wp_mono (wp_bind w) (fun ds S1 h1 α1 H1 e1 a1 p xs hp hn hx tx => ?_) fun _ _ z => z⟩
  unfold alloc at h1
  by_cases hb : rbO S1.length (.lst ds) = true
  · simp only [hb, if_true] at h1
    obtain ⟨a2, pre⟩ := At.take_in a1 hn (o := .lst ds) ⟨xs, hx, tx⟩ hb
    refine h1 (α1 ++ [p]) H1 ⟨fun i b h => pre i b (e1.pre i b h), e1.keep, fun b hb => ?_⟩ a2 _ ⟨p, ?_, rfl⟩
    · rcases List.mem_append.mp hb with z | z
      · exact e1.new b z
      · rw [List.mem_singleton] at z
        rw [z]
        exact .inr hp
    · rw [← a1.len, List.getElem?_append_right (Nat.le_refl _)]
      simp
  · simp only [hb] at h1
    exact h1.elim
theorem e_idxL {a b : Expr} {l : L} {ib : E} (hK : X.K = g.K) (ha : PE X a (rLn g W (evL cal l))) (hb : PE X b (rE g W (evE cal ib))) (hs : PlainIx b := by exact fun _ _ => rfl) : PE X (.Subscript a b pos) (rE g W (evE cal (.idxL l ib))) := by
  have h := ix_list (X := X)
  rw [hK] at h
  refine pe_imp (pe_ix h ha hb hs) fun σ H Q q => ?_
  obtain ⟨α, S, q⟩ := q
  refine ⟨α, S, (rAt.bind (m := evL cal l) (f := fun ds ρ => M.bind (evE cal ib ρ) fun y => M.opt ((asInt y).bind fun i => atI ds i)) q).imp fun ds S1 α1 H1 e1 a1 h1 p xs hp hn hx tx => ⟨α1, S1, (rAt.bind (m := evE cal ib) (f := fun y _ => M.opt ((asInt y).bind fun i => atI ds i)) h1).imp fun y S2 α2 H2 e2 a2 h2 u tu => ?_⟩⟩
  obtain ⟨z, hz, k⟩ := rAt.opt (o := fun _ => (asInt y).bind fun i => atI ds i) h2
  have hz : ((asInt y).bind fun i => atI ds i) = some z := hz
  cases y with
  | p d =>
    cases d <;> simp [asInt] at hz
    cases tu
    obtain ⟨v, h4, h5⟩ := atI_D tx hz
    exact ⟨p, xs, _, v, rfl, rfl, SqL.of (e2.keep p _ hx hn), h4, k α2 H2 (Ext.refl _ _) a2 v (h5.ext e2 a1)⟩
  | ref _ => simp [asInt] at hz
  | fn _ => simp [asInt] at hz

/-! ### calls of defs -/
def spI (g : Gc) (m : List D → M D) : Sp := fun vs H Q E => ∃ α S ds, g.At α H S ∧ g.TlA α H ds vs ∧ wp (m ds S) (fun d S' => ∀ α' H', Ext α α' H H' → g.At α' H' S' → ∀ v, g.Tl α' H' d v → Q v H')
  (fun e S' => ∀ cls dx α' H', Ext α α' H H' → g.At α' H' S' → g.TX e cls dx H' → E cls dx H')
/-- where a piece of a def's body is read -/
structure Gd (X : Cx) (g : Gc) (W : WX) (CX : CXT) (cal : Nat → List D → M D) (k : Nat) : Prop where
  K : X.K = g.K
  calm : X.calm = true
  nd : X.N.Nodup
  room : Room k X.A
  pass : ∀ σ, PassesAt CX X σ (WE W σ)
  none : ∀ (l : List Env) (H : Hp) (s : Shared) (e : Value) (s' : Shared), CX l H s (fun _ _ _ => False) e s' → False
  tab : ∀ i f, g.ph i = some f → ∃ fd ps, FnOk X.prog X.w X.K X.mg X.base CX k f fd ps (spI g (cal i)) ∧ PySem.W.keepIn X.K (.ref f) = true ∧ Binds X.K fd ps []
abbrev W0 : WX := fun _ _ _ _ => False
theorem Gd.hu {CX : CXT} {k : Nat} (G : Gd X g W CX cal k) : X.A.units + 64 < cLine := G.room.units
theorem Gd.pass0 {CX : CXT} {k : Nat} (G : Gd X g W CX cal k) : Passes CX X (fun _ _ _ => False) := fun _ _ _ _ _ _ _ h => (G.none _ _ _ _ _ h).elim
theorem Gd.blk {CX : CXT} {k : Nat} (G : Gd X g W CX cal k) (s : Shared) (H : Hp) (scope : Scope) (ce : Env) (fp : List Addr) : Gd (X.blk s H scope ce fp) g W0 CX cal k :=
  ⟨G.K, G.calm, G.nd, G.room, fun _ _ _ _ _ _ _ h => (G.none _ _ _ _ _ h).elim, G.none, G.tab⟩
theorem call_of {ds : List D} {vs : List V} {m : List D → M D} {α : List Addr} {S : Sto} {σ : L2.St} {H : Hp} {Q : VK} {E : XK} (tv : g.TlA α H ds vs) (h : rAt g W α S (fun _ => m ds) σ H (fun d _ α' H' => ∀ v, g.Tl α' H' d v → Q v H'))
    (hE : ∀ cls dx H', W cls dx σ H' → E cls dx H') : spI g m vs H Q E := by
  obtain ⟨ρ, a, r, h⟩ := h
  exact ⟨α, S, ds, a, tv, wp_mono h (fun d S' q => q) fun e S' q cls dx α' H' e1 a1 t => hE _ _ _ (q cls dx α' H' e1 a1 t)⟩
theorem e_call {CX : CXT} {k i : Nat} {f : Addr} {x : Str} {p : Pos} {e : Expr} {es : List Expr} {is : Es} (G : Gd X g W CX cal k) (hph : g.ph i = some f) (hm : X.mg x = some (.ref f)) (ha : PA X (e :: es) (rA g W (evEs cal is)))
    (hg : Gl X x := by rfl) (hdb : (x == ("__debug__" : Str)) = false := by decide) (he : starEach (e :: es) X.env = (false, eval e X.env) :: starEach es X.env := by rfl) (hpl : (backTo pos (starEach es X.env)).any (·.1) = false := by rfl) :
    PE X (.Call (.Name x p) (e :: es) [] pos) (rE g W (evE cal (.call i is))) := by
  obtain ⟨fd, ps, F, hk, hb⟩ := G.tab i f hph
  refine pe_imp (pe_callSD (E := WE W) F G.room hg hm hk hb .nil G.pass ha hdb he hpl) fun σ H Q h => ?_
  obtain ⟨α, S, h⟩ := h
  refine ⟨α, S, (rAt.bind (m := evEs cal is) (f := fun ds _ => cal i ds) h).imp fun ds S1 α1 H1 e1 a1 h1 vs tv => ?_⟩
  show spI g (cal i) (vs ++ []) H1 Q (WE W σ)
  rw [List.append_nil]
  exact call_of tv h1 fun _ _ _ z => z
theorem e_call0 {CX : CXT} {k i : Nat} {f : Addr} {x : Str} {p : Pos} (G : Gd X g W0 CX cal k) (hph : g.ph i = some f) (hm : X.mg x = some (.ref f)) (hg : Gl X x := by rfl) (hdb : (x == ("__debug__" : Str)) = false := by decide) :
    PE X (.Call (.Name x p) [] [] pos) (rE g W0 (evE cal (.call i .nil))) := by
  obtain ⟨fd, ps, F, hk, hb⟩ := G.tab i f hph
  refine pe_imp (pe_call0 (E := fun _ _ _ => False) F G.room hg hm hk hb .nil G.pass0 hdb) fun σ H Q h => ?_
  obtain ⟨α, S, h⟩ := h
  have h1 := rAt.bind (m := fun _ => M.pure []) (f := fun ds _ => cal i ds) h
  have a1 := h1.at_
  exact call_of (ds := []) .nil (h1.here α H (Ext.refl _ _) a1) fun _ _ _ z => z
theorem e_callv {CX : CXT} {k : Nat} (i : Nat) {x : Str} {p : Pos} {e : Expr} {es : List Expr} {is : Es} (G : Gd X g W0 CX cal k) (ha : PA X (e :: es) (rA g W0 (evEs cal is))) (hN : X.N[i]? = some x := by rfl)
    (hv : Vis X.env.scope x := by first | exact Or.inl rfl | exact Or.inr (Or.inl rfl) | exact Or.inr (Or.inr rfl)) (hdb : (x == ("__debug__" : Str)) = false := by decide) (hcd : (x == ("__classdict__" : Str)) = false := by decide)
    (he : starEach (e :: es) X.env = (false, eval e X.env) :: starEach es X.env := by rfl) (hpl : (backTo pos (starEach es X.env)).any (·.1) = false := by rfl) :
    PE X (.Call (.Name x p) (e :: es) [] pos) (rE g W0 (evE cal (.callv i is))) := by
  refine ⟨fun pins s σ H Q I h => ?_⟩
  obtain ⟨α, S, ρ, a, r, h⟩ := h
  have h : wp ((match ρ[i]? with | some (some (.fn f)) => M.bind (evEs cal is ρ) fun ds => cal f ds | _ => M.bad) S) (fun b S' => ∀ α' H', Ext α α' H H' → g.At α' H' S' → ∀ v, g.Tl α' H' b v → Q v H') (exW g W0 α σ H) := h
  cases q : ρ[i]? with
  | none => rw [q] at h; exact h.elim
  | some o =>
    rw [q] at h
    cases o with
    | none => exact h.elim
    | some d =>
      cases d with
      | p _ => exact h.elim
      | ref _ => exact h.elim
      | fn j =>
        obtain ⟨v, hs, f, hf, rfl⟩ := r.at_ i _ q
        obtain ⟨fd, ps, F, hk, hb⟩ := G.tab j f hf
        refine (pe_callL (i := i) (E := fun _ _ _ => False) F G.room hN hv hk hb .nil G.pass0 ha hdb hcd he hpl).run pins s σ H Q I ⟨hs, α, S, ?_⟩
        have h2 : rAt g W0 α S (fun ρ => M.bind (evEs cal is ρ) fun ds => cal j ds) σ H (fun d _ α' H' => ∀ v, g.Tl α' H' d v → Q v H') := ⟨ρ, a, r, h⟩
        refine (rAt.bind (m := evEs cal is) (f := fun ds _ => cal j ds) h2).imp fun ds S1 α1 H1 e1 a1 h1 vs tv => ?_
        show spI g (cal j) (vs ++ []) H1 Q fun _ _ _ => False
        rw [List.append_nil]
        exact call_of tv h1 fun _ _ _ z => z
end
end Ir
set_option Elab.async false
set_option maxRecDepth 100000
set_option maxHeartbeats 4000001
namespace Ir
open PySem L2 PySem.Spec PyProof.Rows
section
variable {X : Cx} {g : Gc} {W : WX} {cal : Nat → List D → M D} {pos : Pos} {K : PySem.W.Frag}
theorem bools_of {ph : Nat → Option Addr} {α : List Addr} {H : Hp} : ∀ {ds : List D} {vs : List V} {bs : List Bool}, TlA K ph α H ds vs → boolsOf ds = some bs → vs = bs.map V.bl
  | [], _, _, h, e => by cases h; cases e; rfl
  | d :: r, _, bs, h, e => by
    cases h with
    | cons a b =>
      cases d with
      | p d =>
        cases d <;> first | (simp [boolsOf] at e; done) | skip
        rename_i b0
        unfold boolsOf at e
        cases q : boolsOf r with
        | none => rw [q] at e; cases e
        | some rs =>
          rw [q] at e
          cases e
          cases a
          rw [bools_of b q]
          rfl
      | ref _ => simp [boolsOf] at e
      | fn _ => simp [boolsOf] at e
theorem dpAll_of {ph : Nat → Option Addr} {α : List Addr} {H : Hp} {ds : List D} {vs : List V} {ps : List PyData} (h : TlA K ph α H ds vs) (e : plainOf ds = some ps) : DpAll K H vs ps := (TlA.plain h e).dp

theorem lst_at {α : List Addr} {H : Hp} {S : Sto} {x : D} {v : V} {ds : List D} (a : g.At α H S) (t : g.Tl α H x v) (h : lstAt S x = some ds) : ∃ b xs, v = .ref b ∧ H b = some (.lst xs) ∧ g.TlA α H ds xs := by
  unfold lstAt at h
  split at h
  · split at h
    · rename_i hj
      cases h
      obtain ⟨b, xs, h1, h2, h3⟩ := At.lst a hj
      obtain ⟨b', h1', rfl⟩ := t
      rw [h1] at h1'
      cases h1'
      exact ⟨b, xs, rfl, h2, h3⟩
    · cases h
  · cases h
theorem dic_at {α : List Addr} {H : Hp} {S : Sto} {x : D} {v : V} {kvs : List (Key × D)} (a : g.At α H S) (t : g.Tl α H x v) (h : dicAt S x = some kvs) : ∃ b ws, v = .ref b ∧ H b = some (.dK ws) ∧ Paired (fun (p : Key × D) (q : Key × V) => p.1 = q.1 ∧ g.Tl α H p.2 q.2) kvs ws := by
  unfold dicAt at h
  split at h
  · split at h
    · rename_i hj
      cases h
      obtain ⟨b, xs, h1, h2, h3⟩ := At.dic a hj
      obtain ⟨b', h1', rfl⟩ := t
      rw [h1] at h1'
      cases h1'
      exact ⟨b, xs, rfl, h2, h3⟩
    · cases h
  · cases h
theorem e_neg {a : Expr} {ia : E} (ha : PE X a (rE g W (evE cal ia))) : PE X (.UnaryOp .USub a pos) (rE g W (evE cal (.neg ia))) := pe_imp (pe_un un_neg ha) fun σ H Q h => by
  obtain ⟨α, S, h⟩ := h
  refine ⟨α, S, (rAt.bind (m := evE cal ia) (f := fun x _ => M.opt ((asInt x).map fun i => D.p (.int (-i)))) h).imp fun x S1 α1 H1 e1 a1 h1 v tv => ?_⟩
  obtain ⟨z, hz, k⟩ := rAt.opt (o := fun _ => (asInt x).map fun i => D.p (.int (-i))) h1
  have hz : ((asInt x).map fun i => D.p (.int (-i))) = some z := hz
  cases x with
  | p d =>
    cases d <;> simp [asInt] at hz
    subst hz
    cases tv
    exact ⟨_, rfl, k α1 H1 (Ext.refl _ _) a1 _ (.int _)⟩
  | ref _ => simp [asInt] at hz
  | fn _ => simp [asInt] at hz
theorem len_of {α : List Addr} {H : Hp} {S : Sto} {x : D} {v : V} {n : Int} (a : g.At α H S) (t : g.Tl α H x v) (h : lenD S x = some n) : ∃ m : Nat, n = (m : Int) ∧ LenV g.K v H m := by
  unfold lenD at h
  split at h
  · cases h
    cases t with
    | tup hq ha => exact ⟨_, rfl, .inr ⟨_, hq.sq, ha.length⟩⟩
  · split at h
    · rename_i hl
      cases h
      cases t
      exact ⟨_, rfl, hl, rfl⟩
    · cases h
  · split at h
    · rename_i hj
      cases h
      obtain ⟨b, xs, h1, h2, h3⟩ := At.lst a hj
      obtain ⟨b', h1', rfl⟩ := t
      rw [h1] at h1'
      cases h1'
      exact ⟨_, rfl, .inl ⟨xs, SqL.of h2, Paired.length h3⟩⟩
    · cases h
  · cases h
theorem e_len {a : Expr} {ia : E} {p : Pos} (hK : X.K = g.K) (hm : X.mg "len" = none) (ha : PE X a (rE g W (evE cal ia))) (hg : Gl X "len" := by rfl) (hs : starEach [a] X.env = (false, eval a X.env) :: starEach [] X.env := by rfl) :
    PE X (.Call (.Name "len" p) [a] [] pos) (rE g W (evE cal (.len ia))) := by
  have h := call_len (X := X)
  rw [hK] at h
  refine pe_imp (pe_callB h hg hm boot_len (pa_cons ha pa_nil hs) (he := hs)) fun σ H Q h => ?_
  obtain ⟨α, S, h⟩ := h
  refine ⟨α, S, (rAt.bind (m := evE cal ia) (f := fun x _ => fun S => M.opt ((lenD S x).map fun n => D.p (.int n)) S) h).imp fun x S1 α1 H1 e1 a1 h1 v tv => ?_⟩
  obtain ⟨z, hz, k⟩ := h1.opt
  cases e : lenD S1 x with
  | none => simp [e] at hz
  | some n =>
    simp [e] at hz
    subst hz
    obtain ⟨m, rfl, hl⟩ := len_of a1 tv e
    exact ⟨v, m, rfl, hl, k α1 H1 (Ext.refl _ _) a1 _ (.int _)⟩
theorem e_all {a : Expr} {l : L} {p : Pos} (G : X.calm = true) (hK : X.K = g.K) (hm : X.mg "all" = none) (ha : PE X a (rLn g W (evL cal l))) (hg : Gl X "all" := by rfl) (hs : starEach [a] X.env = (false, eval a X.env) :: starEach [] X.env := by rfl) :
    PE X (.Call (.Name "all" p) [a] [] pos) (rE g W (evE cal (.all l))) := by
  have h := cr_all (X := X) G
  rw [hK] at h
  refine pe_imp (pe_callB h hg hm boot_all (pa_cons ha pa_nil hs) (he := hs)) fun σ H Q h => ?_
  obtain ⟨α, S, h⟩ := h
  refine ⟨α, S, (rAt.bind (m := evL cal l) (f := fun ds _ => M.opt ((boolsOf ds).map fun bs => D.p (.bool (bs.all id)))) h).imp fun ds S1 α1 H1 e1 a1 h1 q xs hp hn hx tx => ?_⟩
  obtain ⟨z, hz, k⟩ := rAt.opt (o := fun _ => (boolsOf ds).map fun bs => D.p (.bool (bs.all id))) h1
  cases e : boolsOf ds with
  | none => simp [e] at hz
  | some bs =>
    simp [e] at hz
    subst hz
    have e2 := bools_of tx e
    subst e2
    refine ⟨q, bs, rfl, SqL.of hx, ?_⟩
    exact k α1 H1 (Ext.refl _ _) a1 _ (Tp.bl _)
theorem e_any {a : Expr} {l : L} {p : Pos} (G : X.calm = true) (hK : X.K = g.K) (hm : X.mg "any" = none) (ha : PE X a (rLn g W (evL cal l))) (hg : Gl X "any" := by rfl) (hs : starEach [a] X.env = (false, eval a X.env) :: starEach [] X.env := by rfl) :
    PE X (.Call (.Name "any" p) [a] [] pos) (rE g W (evE cal (.any l))) := by
  have h := cr_any (X := X) G
  rw [hK] at h
  refine pe_imp (pe_callB h hg hm boot_any (pa_cons ha pa_nil hs) (he := hs)) fun σ H Q h => ?_
  obtain ⟨α, S, h⟩ := h
  refine ⟨α, S, (rAt.bind (m := evL cal l) (f := fun ds _ => M.opt ((boolsOf ds).map fun bs => D.p (.bool (bs.any id)))) h).imp fun ds S1 α1 H1 e1 a1 h1 q xs hp hn hx tx => ?_⟩
  obtain ⟨z, hz, k⟩ := rAt.opt (o := fun _ => (boolsOf ds).map fun bs => D.p (.bool (bs.any id))) h1
  cases e : boolsOf ds with
  | none => simp [e] at hz
  | some bs =>
    simp [e] at hz
    subst hz
    have e2 := bools_of tx e
    subst e2
    refine ⟨q, bs, rfl, SqL.of hx, ?_⟩
    exact k α1 H1 (Ext.refl _ _) a1 _ (Tp.bl _)

/-! ### isinstance -/
def tyN : Ty → String
  | .int => "int" | .bool => "bool" | .str => "str" | .tuple => "tuple"
theorem tyX_tup {K : PySem.W.Frag} {H : Hp} {a : Addr} {xs : List V} (h : SqT K H a xs) : TyX K H (.ref a) (.type "tuple") := by
  rcases h with (h | ⟨o, h⟩) | ⟨o, its, n, h, hc, _⟩
  · exact .base (.tup h)
  · exact .fTuple h
  · exact .kTuple h hc
theorem isi_of {α : List Addr} {H : Hp} {x : D} {v : V} {t : Ty} {b : Bool} (tv : g.Tl α H x v) (h : isiD x t = some b) : ∃ tt, TyX g.K H v tt ∧ PySem.W.kitOne g.K tt (.type (tyN t)) = some b := by
  cases x with
  | ref _ => cases t <;> simp [isiD] at h
  | fn _ => cases t <;> simp [isiD] at h
  | p d =>
    cases d with
    | none => cases tv; cases t <;> (simp [isiD] at h; subst h; exact ⟨_, .base .non, kit_ty (by decide +kernel)⟩)
    | bool k => cases tv; cases t <;> (simp [isiD] at h; subst h; exact ⟨_, .base (.bl k), kit_ty (by decide +kernel)⟩)
    | int i => cases tv; cases t <;> (simp [isiD] at h; subst h; exact ⟨_, .base (.int i), kit_ty (by decide +kernel)⟩)
    | str s => cases tv; cases t <;> (simp [isiD] at h; subst h; exact ⟨_, .base (.str s), kit_ty (by decide +kernel)⟩)
    | tuple ds =>
      cases tv with
      | tup hq ha => cases t <;> (simp [isiD] at h; subst h; exact ⟨_, tyX_tup hq.sq, kit_ty (by decide +kernel)⟩)
    | list ds => cases t <;> simp [isiD] at h
    | dict ds => cases t <;> simp [isiD] at h
theorem e_isi {a : Expr} {ia : E} {p p2 : Pos} (t : Ty) {T : Str} (hT : bootBuiltins T = some (.type (tyN t))) (hK : X.K = g.K) (hm : X.mg "isinstance" = none) (hmT : X.mg T = none) (ha : PE X a (rE g W (evE cal ia))) (hg : Gl X "isinstance" := by rfl) (hgT : Gl X T := by rfl)
    (hn : T ≠ "__name__" := by decide) (hd : (T == ("__debug__" : Str)) = false := by decide) (hs : starEach [a, .Name T p2] X.env = (false, eval a X.env) :: starEach [.Name T p2] X.env := by rfl) :
    PE X (.Call (.Name "isinstance" p) [a, .Name T p2] [] pos) (rE g W (evE cal (.isi ia t))) := by
  have h := call_isi (X := X)
  rw [hK] at h
  refine pe_imp (pe_callB h hg hm boot_isinstance (pa_cons ha (pa_cons (pe_bltn (v := .ty (tyN t)) hgT hmT hT rfl hn hd) pa_nil) hs) (he := hs)) fun σ H Q h => ?_
  obtain ⟨α, S, h⟩ := h
  refine ⟨α, S, (rAt.bind (m := evE cal ia) (f := fun x _ => M.opt ((isiD x t).map fun k => D.p (.bool k))) h).imp fun x S1 α1 H1 e1 a1 h1 v tv => ?_⟩
  obtain ⟨z, hz, k⟩ := rAt.opt (o := fun _ => (isiD x t).map fun k => D.p (.bool k)) h1
  cases e : isiD x t with
  | none => simp [e] at hz
  | some b =>
    simp [e] at hz
    subst hz
    obtain ⟨tt, h3, h4⟩ := isi_of tv e
    exact ⟨v, _, tt, _, b, rfl, .ty _, h3, h4, k α1 H1 (Ext.refl _ _) a1 _ (.bl _)⟩
theorem e_toInt {a : Expr} {ia : E} {p : Pos} (hm : X.mg "int" = none) (ha : PE X a (rE g W (evE cal ia))) (hg : Gl X "int" := by rfl) (hs : starEach [a] X.env = (false, eval a X.env) :: starEach [] X.env := by rfl) :
    PE X (.Call (.Name "int" p) [a] [] pos) (rE g W (evE cal (.toInt ia))) := by
  refine pe_imp (pe_callTy call_int1 hg hm (by decide +kernel) (pa_cons ha pa_nil hs) (he := hs)) fun σ H Q h => ?_
  obtain ⟨α, S, h⟩ := h
  refine ⟨α, S, (rAt.bind (m := evE cal ia) (f := fun x _ => M.opt ((intOf x).map fun i => D.p (.int i))) h).imp fun x S1 α1 H1 e1 a1 h1 v tv => ?_⟩
  obtain ⟨z, hz, k⟩ := rAt.opt (o := fun _ => (intOf x).map fun i => D.p (.int i)) h1
  cases x with
  | p d =>
    cases d <;> first | (simp [intOf] at hz; done) | skip
    · simp [intOf] at hz
      subst hz
      cases tv
      exact .inr ⟨_, rfl, k α1 H1 (Ext.refl _ _) a1 _ (.int _)⟩
    · simp [intOf] at hz
      subst hz
      cases tv
      exact .inl ⟨_, rfl, k α1 H1 (Ext.refl _ _) a1 _ (.int _)⟩
  | ref _ => simp [intOf] at hz
  | fn _ => simp [intOf] at hz
theorem call_tupleF : CallR X (.type "tuple") (fun xs H Q => ∃ p ys, xs = [.ref p] ∧ SqL X.K H p ys ∧ ∀ l o, H l = none → o.dict = none → Q (.ref l) (upd H l (.frz o (.tup ys)))) := by
  intro pins s σ H xs us Q I r h
  obtain ⟨p, ys, rfl, hq, q⟩ := h
  obtain ⟨u, rfl, rx⟩ := vals1 r
  cases rx
  obtain ⟨ws, r', pl, hz⟩ := I.list hq
  refine call_tuple_list pl.isList (fun h' kp => ?_) (by have := r'.length; simp only [List.size_toArray]; omega)
  have I1 : Inv X pins σ H { s with heap := h' } := I.kept (t' := s.toks) kp
  exact ⟨.ref h'.objs.size, _, I1.laid (t' := s.toks) (fun b o e => Heap.get?_push_of_some _ e) (Nat.le_refl _) (frz_new r' hz), rfl, q _ _ (I1.hok.fresh (Nat.le_refl _)) rfl⟩
theorem e_tupOf {a : Expr} {ia : E} {p : Pos} (hK : X.K = g.K) (hm : X.mg "tuple" = none) (ha : PE X a (rE g W (evE cal ia))) (hg : Gl X "tuple" := by rfl) (hs : starEach [a] X.env = (false, eval a X.env) :: starEach [] X.env := by rfl) :
    PE X (.Call (.Name "tuple" p) [a] [] pos) (rE g W (evE cal (.tupOf ia))) := by
  have h := call_tupleF (X := X)
  rw [hK] at h
  refine pe_imp (pe_callTy h hg hm (by decide +kernel) (pa_cons ha pa_nil hs) (he := hs)) fun σ H Q h => ?_
  obtain ⟨α, S, h⟩ := h
  refine ⟨α, S, (rAt.bind (m := evE cal ia) (f := fun x _ => fun S => M.opt (tupD S x) S) h).imp fun x S1 α1 H1 e1 a1 h1 v tv => ?_⟩
  obtain ⟨z, hz, k⟩ := h1.opt
  obtain ⟨ds, e0, hz⟩ := Option.bind_eq_some_iff.mp hz
  obtain ⟨ps, e, hz⟩ := Option.map_eq_some_iff.mp hz
  subst hz
  obtain ⟨b, xs, rfl, h2, h3⟩ := lst_at a1 tv e0
  refine ⟨b, xs, rfl, SqL.of h2, fun l o hl ho => ?_⟩
  obtain ⟨e2, a2⟩ := At.fresh a1 hl (u := .frz o (.tup xs))
  exact k α1 _ e2 a2 _ (.tup (.inl ⟨o, upd_same, ho⟩) ((TlA.plain h3 e).keep (e2.kt a1)))
theorem l_of {a : Expr} {ia : E} {p : Pos} (hK : X.K = g.K) (hm : X.mg "list" = none) (ha : PE X a (rE g W (evE cal ia))) (hg : Gl X "list" := by rfl) (hs : starEach [a] X.env = (false, eval a X.env) :: starEach [] X.env := by rfl) :
    PE X (.Call (.Name "list" p) [a] [] pos) (rLn g W (evL cal (.of ia))) := by
  have h := call_list_of (X := X)
  rw [hK] at h
  refine pe_imp (pe_callTy h hg hm (by decide +kernel) (pa_cons ha pa_nil hs) (he := hs)) fun σ H Q h => ?_
  obtain ⟨α, S, ρ, a0, r, w⟩ := h
  have w : wp (M.bind (evE cal ia ρ) (fun x => fun S => M.opt (ofD S x) S) S) _ _ := w
  refine ⟨α, S, ρ, a0, r, wp_mono (wp_bind w) (fun x S1 h1 α1 H1 e1 a1 v tv => ?_) fun _ _ z => z⟩
  cases e : ofD S1 x with
  | none => simp only [M.opt, e] at h1; exact h1.elim
  | some ds =>
    simp only [M.opt, e] at h1
    have fin : ∀ {b : Addr} {xs : List V}, (SqL g.K H1 b xs ∨ SqT g.K H1 b xs) → g.TlA α1 H1 ds xs → ∃ p ys, [V.ref b] = [.ref p] ∧ (SqL g.K H1 p ys ∨ SqT g.K H1 p ys) ∧ ∀ l, H1 l = none → Q (.ref l) (upd H1 l (.lst ys)) := fun {b xs} hq tx => by
      refine ⟨b, xs, rfl, hq, fun l hl => ?_⟩
      obtain ⟨e2, a2⟩ := At.fresh a1 hl (u := .lst xs)
      exact h1 α1 _ (e1.trans e2) a2 l xs (e1.none a1 hl) (a1.notin hl) upd_same (TlA.ext e2 a1 tx)
    unfold ofD at e
    split at e
    · obtain ⟨b, xs, rfl, h2, h3⟩ := lst_at a1 tv e
      exact fin (.inl (SqL.of h2)) h3
    · cases e
      cases tv with
      | tup hq hx => exact fin (.inr hq.sq) (TpA.toTl hx)
    · cases e
      cases tv with
      | lst hq hx => exact fin (.inl hq.sq) (TpA.toTl hx)
    · cases e
end
end Ir
set_option Elab.async false
set_option maxRecDepth 100000
set_option maxHeartbeats 4000001
/-! Loops, comprehensions, statements, a def's body. -/
namespace Ir
open PySem L2 PySem.Spec PyProof.Rows

/-! ### targets -/
/-- σ' is σ but at vs -/
structure Ag (vs : List Nat) (σ σ' : L2.St) : Prop where
  len : σ'.length = σ.length
  at_ : ∀ j, j ∉ vs → σ'[j]? = σ[j]?
theorem wipe_get : ∀ (vs : List Nat) (σ : L2.St) (j : Nat), (wipe σ vs)[j]? = if j ∈ vs ∧ j < σ.length then some none else σ[j]?
  | [], σ, j => by simp [wipe]
  | v :: vs, σ, j => by
    unfold wipe
    by_cases e : v = j
    · subst e
      by_cases h : v < σ.length
      · rw [List.getElem?_set_self (by rw [wipe_length]; exact h)]
        simp [h]
      · rw [List.getElem?_eq_none (by rw [List.length_set, wipe_length]; omega), if_neg (by omega), List.getElem?_eq_none (by omega)]
    · rw [List.getElem?_set_ne e, wipe_get vs σ j]
      have : (j ∈ v :: vs) ↔ j ∈ vs := by
        rw [List.mem_cons]
        exact ⟨fun h => h.resolve_left fun z => e z.symm, .inr⟩
      simp [this]
theorem Ag.wipe {vs : List Nat} {σ σ' : L2.St} (a : Ag vs σ σ') : wipe σ' vs = wipe σ vs := by
  apply List.ext_getElem?
  intro j
  rw [wipe_get, wipe_get, a.len]
  by_cases h : j ∈ vs
  · by_cases l : j < σ.length
    · simp [h, l]
    · simp only [h, l, and_false, if_false]
      rw [List.getElem?_eq_none (by rw [a.len]; omega), List.getElem?_eq_none (by omega)]
  · simp [h, a.at_ j h]
theorem Ag.refl (vs : List Nat) (σ : L2.St) : Ag vs σ σ := ⟨rfl, fun _ _ => rfl⟩
theorem Ag.set {vs : List Nat} {σ σ' : L2.St} {i : Nat} {x : Option V} (h : i ∈ vs) (a : Ag vs (σ.set i x) σ') : Ag vs σ σ' := ⟨by rw [a.len, List.length_set], fun j hj => by rw [a.at_ j hj, List.getElem?_set_ne (fun z => hj (by rw [← z]; exact h))]⟩
theorem Ag.mono {vs ws : List Nat} {σ σ' : L2.St} (h : ∀ i ∈ vs, i ∈ ws) (a : Ag vs σ σ') : Ag ws σ σ' := ⟨a.len, fun j hj => a.at_ j fun z => hj (h j z)⟩
/-- what a turn hands to its target: a tuple that is taken apart at once may be any -/
def TlS (g : Gc) (one : Bool) (α : List Addr) (H : Hp) (d : D) (v : V) : Prop := g.Tl α H d v ∨ (one = false ∧ ∃ a xs ds, d = .p (.tuple ds) ∧ v = .ref a ∧ SqT g.K H a xs ∧ TpA g.K H ds xs)
def rG (g : Gc) (tg : List Nat) (one : Bool) : TG := fun v σ H Q => ∃ α S ρ d ρ', g.At α H S ∧ g.Sr α H σ ρ ∧ TlS g one α H d v ∧ tgt tg one d ρ = some ρ' ∧ ∀ σ', g.Sr α H σ' ρ' → Ag tg σ σ' → Q σ' H
def rGs (g : Gc) (tg : List Nat) : TGs := fun vs σ H Q => ∃ α S ρ ds ρ', g.At α H S ∧ g.Sr α H σ ρ ∧ g.TlA α H ds vs ∧ setAll tg ds ρ = some ρ' ∧ ∀ σ', g.Sr α H σ' ρ' → Ag tg σ σ' → Q σ' H
theorem pg_imp {X : Cx} {e : Expr} {t t' : TG} (h : PG X e t) (i : ∀ v σ H Q, t' v σ H Q → t v σ H Q) : PG X e t' := ⟨fun pins s σ H v u Q I r q => h.run pins s σ H v u Q I r (i v σ H Q q)⟩
theorem pgs_imp {X : Cx} {e : List Expr} {t t' : TGs} (h : PGs X e t) (i : ∀ v σ H Q, t' v σ H Q → t v σ H Q) : PGs X e t' := ⟨fun pins s σ H v u Q I r q => h.run pins s σ H v u Q I r (i v σ H Q q)⟩
section
variable {X : Cx} {g : Gc} {W : WX} {cal : Nat → List D → M D} {pos : Pos}
theorem g_one (i : Nat) {x : Str} (hN : X.N.Nodup) (hi : X.N[i]? = some x := by rfl) (hx : Loc X.env.scope x := by first | exact Or.inl rfl | exact Or.inr rfl) (hf : X.fn x = true ∨ X.env.scope.names.lookup x = some .local := by first | exact .inl rfl | exact .inr rfl) :
    PG X (.Name x pos) (rG g [i] true) := pg_imp (pg_name hN hi hx hf) fun v σ H Q q => by
  obtain ⟨α, S, ρ, d, ρ', a, r, t, e, k⟩ := q
  have e : some (ρ.set i (some d)) = some ρ' := e
  cases e
  have t : g.Tl α H d v := t.resolve_right fun z => by cases z.1
  exact k _ (r.set t) ((Ag.refl _ _).set (List.mem_singleton.mpr rfl))
theorem g_nil : PGs X [] (rGs g []) := pgs_imp pgs_nil fun v σ H Q q => by
  obtain ⟨α, S, ρ, ds, ρ', a, r, t, e, k⟩ := q
  cases ds with
  | nil =>
    cases t
    cases e
    exact ⟨rfl, k σ r (Ag.refl _ _)⟩
  | cons d ds => cases e
theorem g_cons (i : Nat) {is : List Nat} {x : Str} {es : List Expr} (hN : X.N.Nodup) (h2 : PGs X es (rGs g is)) (hi : X.N[i]? = some x := by rfl) (hx : Loc X.env.scope x := by first | exact Or.inl rfl | exact Or.inr rfl)
    (hf : X.fn x = true ∨ X.env.scope.names.lookup x = some .local := by first | exact .inl rfl | exact .inr rfl) (hs : (assignEach (.Name x pos :: es) X.env).map (·.2) = assign (.Name x pos) X.env :: (assignEach es X.env).map (·.2) := by rfl) :
    PGs X (.Name x pos :: es) (rGs g (i :: is)) := pgs_imp (pgs_cons (pg_name hN hi hx hf) h2 hs) fun v σ H Q q => by
  obtain ⟨α, S, ρ, ds, ρ', a, r, t, e, k⟩ := q
  cases ds with
  | nil => cases e
  | cons d ds =>
    cases t with
    | cons t1 t2 =>
      refine ⟨_, _, rfl, α, S, _, ds, ρ', a, r.set t1, t2, e, fun σ' r' ag => k σ' r' ?_⟩
      exact (ag.mono fun j h => List.mem_cons_of_mem _ h).set (List.mem_cons_self ..)
theorem g_tup {es : List Expr} {k : Nat} {is : List Nat} (hK : X.K = g.K) (hc : X.calm = true) (h : PGs X es (rGs g is)) (hn : (assignEach es X.env).length = is.length := by rfl) (hst : (assignEach es X.env).findIdx? (·.1) = none := by rfl) :
    PG X (.Tuple es k pos) (rG g is false) := by
  have h1 := pg_tup (pos := pos) (k := k) hc h hn hst
  rw [hK] at h1
  refine pg_imp h1 fun v σ H Q q => ?_
  obtain ⟨α, S, ρ, d, ρ', a, r, t, e, k⟩ := q
  unfold tgt at e
  rw [if_neg (by decide)] at e
  split at e
  · split at e
    · rename_i hl
      rcases t with t | ⟨_, b, xs, ds, e2, rfl, hq, ha⟩
      · cases t with
        | tup hq ha => exact ⟨_, _, rfl, hq.sq, by rw [← ha.length]; exact hl, α, S, ρ, _, ρ', a, r, TpA.toTl ha, e, k⟩
      · cases e2
        exact ⟨b, xs, rfl, hq, by rw [← ha.length]; exact hl, α, S, ρ, _, ρ', a, r, TpA.toTl ha, e, k⟩
    · cases e
  · cases e
end

/-! ### what is walked -/
def Wk (g : Gc) (one : Bool) (src : Src) (J : It) (α0 : List Addr) (H0 : Hp) : Prop := ∀ i α H S, Ext α0 α H0 H → g.At α H S →
  (∀ d, src.at i S = some (some d) → J.go i H ∧ ∀ x H', J.yld i H x H' → Ext α α H H' ∧ g.At α H' S ∧ TlS g one α H' d x) ∧ (src.at i S = some none → J.stop i H)
def rI (g : Gc) (W : WX) (one : Bool) (m : Sl → M Src) : TI := fun σ H R => rM g W m σ H fun src _ α' H' => ∀ J, Wk g one src J α' H' → R J H'
theorem sq_ext {g : Gc} {α α' : List Addr} {H H' : Hp} {S : Sto} {a : Addr} {xs : List V} (e : Ext α α' H H') (x : g.At α H S) (h : SqT g.K H a xs) : SqT g.K H' a xs := sqT_keep (e.kt x) h
theorem tpa_get {K : PySem.W.Frag} {H : Hp} {ds : List PyData} {xs : List V} (h : TpA K H ds xs) {i : Nat} (e : ds[i]? = none) : xs.length ≤ i := by
  rw [← h.length]
  exact List.getElem?_eq_none_iff.mp e
theorem map_at {A B : Type} {f : A → B} {l : List A} {i : Nat} {b : B} (h : (l.map f)[i]? = some b) : ∃ a, l[i]? = some a ∧ f a = b := by
  rw [List.getElem?_map] at h
  exact Option.map_eq_some_iff.mp h
theorem map_none {A B : Type} {f : A → B} {l : List A} {i : Nat} (h : (l.map f)[i]? = none) : l[i]? = none := by
  rw [List.getElem?_map] at h
  exact Option.map_eq_none_iff.mp h
section
variable {X : Cx} {g : Gc} {W : WX} {cal : Nat → List D → M D} {pos : Pos} {tg : Expr} {one : Bool}
theorem i_tup {e : Expr} {ie : E} (hK : X.K = g.K) (h : PE X e (rE g W (evE cal ie))) : PI X tg e (rI g W one (evI cal (.tup ie))) := by
  have h1 := pi_tup (tg := tg) h
  rw [hK] at h1
  refine pi_imp h1 fun σ H R q => ?_
  obtain ⟨α, S, q⟩ := q
  refine ⟨α, S, (rAt.bind (m := evE cal ie) (f := fun x _ => M.opt (srcTup x)) q).imp fun x S1 α1 H1 e1 a1 h1 v tv => ?_⟩
  obtain ⟨z, hz, k⟩ := rAt.opt (o := fun _ => srcTup x) h1
  have hz : srcTup x = some z := hz
  unfold srcTup at hz
  split at hz
  · rename_i ds _
    cases hz
    cases tv with
    | @tup a xs _ hq ha =>
      refine ⟨a, rfl, ⟨xs, hq.sq⟩, k α1 H1 (Ext.refl _ _) a1 _ fun i α2 H2 S2 e2 a2 => ⟨fun d hd => ?_, fun hd => ?_⟩⟩
      · have hd : (ds.map D.p)[i]? = some d := Option.some.inj hd
        obtain ⟨p, hp, rfl⟩ := map_at hd
        obtain ⟨v, hv, tv⟩ := ha.get hp
        refine ⟨⟨xs, v, sq_ext e2 a1 hq.sq, hv⟩, fun y H' hy => ?_⟩
        obtain ⟨rfl, hy⟩ := hy
        have e3 := hy xs (sq_ext e2 a1 hq.sq)
        rw [hv] at e3
        cases e3
        exact ⟨Ext.refl _ _, a2, .inl (tv.keep (e2.kt a1))⟩
      · have hd : (ds.map D.p)[i]? = none := Option.some.inj hd
        exact ⟨xs, sq_ext e2 a1 hq.sq, tpa_get ha (map_none hd)⟩
  all_goals (cases hz; done)
theorem i_lst {e : Expr} {ie : E} (hK : X.K = g.K) (h : PE X e (rE g W (evE cal ie))) : PI X tg e (rI g W one (evI cal (.lst ie))) := by
  have h1 := pi_list (tg := tg) h
  rw [hK] at h1
  refine pi_imp h1 fun σ H R q => ?_
  obtain ⟨α, S, q⟩ := q
  refine ⟨α, S, (rAt.bind (m := evE cal ie) (f := fun x _ => fun S => M.opt (srcLst S x) S) q).imp fun x S1 α1 H1 e1 a1 h1 v tv => ?_⟩
  obtain ⟨z, hz, k⟩ := h1.opt
  unfold srcLst at hz
  split at hz
  · split at hz
    · rename_i j _ ds hj
      cases hz
      obtain ⟨a, xs, h4, h2, h3⟩ := At.lst a1 hj
      obtain ⟨a', h4', rfl⟩ := tv
      rw [h4] at h4'
      cases h4'
      refine ⟨a, rfl, ⟨xs, SqL.of h2⟩, k α1 H1 (Ext.refl _ _) a1 _ fun i α2 H2 S2 e2 a2 => ?_⟩
      cases ej : S2[j]? with
      | none => exact ⟨fun d hd => by simp [Src.at, ej] at hd, fun hd => by simp [Src.at, ej] at hd⟩
      | some o =>
        cases o with
        | dic _ => exact ⟨fun d hd => by simp [Src.at, ej] at hd, fun hd => by simp [Src.at, ej] at hd⟩
        | lst ds =>
          obtain ⟨b, ys, h5, h6, h7⟩ := At.lst a2 ej
          have h8 := e2.pre j a h4
          rw [h5] at h8
          cases h8
          have only : ∀ zs, SqL g.K H2 a zs → True := fun _ _ => trivial
          refine ⟨fun d hd => ?_, fun hd => ?_⟩
          · simp [Src.at, ej] at hd
            obtain ⟨v, hv, tv⟩ := Paired.get h7 hd
            refine ⟨⟨ys, v, SqL.of h6, hv⟩, fun y H' hy => ?_⟩
            obtain ⟨rfl, hy⟩ := hy
            have e3 := hy ys (SqL.of h6)
            rw [hv] at e3
            cases e3
            exact ⟨Ext.refl _ _, a2, .inl tv⟩
          · simp [Src.at, ej] at hd
            refine ⟨ys, SqL.of h6, ?_⟩
            rw [← Paired.length h7]
            exact hd
    all_goals (cases hz; done)
  all_goals (cases hz; done)
theorem i_str {e : Expr} {ie : E} (h : PE X e (rE g W (evE cal ie))) : PI X tg e (rI g W one (evI cal (.str ie))) := by
  refine pi_imp (pi_str h) fun σ H R q => ?_
  obtain ⟨α, S, q⟩ := q
  refine ⟨α, S, (rAt.bind (m := evE cal ie) (f := fun x _ => M.opt (srcStr x)) q).imp fun x S1 α1 H1 e1 a1 h1 v tv => ?_⟩
  obtain ⟨z, hz, k⟩ := rAt.opt (o := fun _ => srcStr x) h1
  have hz : srcStr x = some z := hz
  unfold srcStr at hz
  split at hz
  · rename_i z0 _
    cases hz
    cases tv
    refine ⟨z0, rfl, k α1 H1 (Ext.refl _ _) a1 _ fun i α2 H2 S2 e2 a2 => ⟨fun d hd => ?_, fun hd => ?_⟩⟩
    · obtain ⟨c, hc, rfl⟩ := map_at (Option.some.inj hd)
      have hc2 : z0.cps[i]? = some c := by rw [← Array.getElem?_toList]; exact hc
      refine ⟨(Array.getElem?_eq_some_iff.mp hc2).1, fun y H' hy => ?_⟩
      obtain ⟨rfl, c', hc', rfl⟩ := hy
      rw [hc2] at hc'
      cases hc'
      exact ⟨Ext.refl _ _, a2, .inl (.str _)⟩
    · have hn := map_none (Option.some.inj hd)
      have := List.getElem?_eq_none_iff.mp hn
      rwa [Array.length_toList] at this
  all_goals (cases hz; done)
theorem i_rng {a : Expr} {ia : E} {p : Pos} (hm : X.mg "range" = none) (h : PE X a (rE g W (evE cal ia))) (hg : Gl X "range" := by rfl) (hs : starEach [a] X.env = [(false, eval a X.env)] := by rfl) : PI X tg (.Call (.Name "range" p) [a] [] pos) (rI g W one (evI cal (.rng ia))) := by
  refine pi_imp (pi_range1 hg hm (pa_cons h pa_nil (by rw [hs]; rfl)) hs) fun σ H R q => ?_
  obtain ⟨α, S, q⟩ := q
  refine ⟨α, S, (rAt.bind (m := evE cal ia) (f := fun x _ => M.opt (srcRng x)) q).imp fun x S1 α1 H1 e1 a1 h1 v tv => ?_⟩
  obtain ⟨z, hz, k⟩ := rAt.opt (o := fun _ => srcRng x) h1
  have hz : srcRng x = some z := hz
  unfold srcRng at hz
  split at hz
  · rename_i n _
    split at hz
    · rename_i hb
      cases hz
      cases tv
      refine ⟨n, rfl, by omega, by omega, k α1 H1 (Ext.refl _ _) a1 _ fun i α2 H2 S2 e2 a2 => ⟨fun d hd => ?_, fun hd => ?_⟩⟩
      · obtain ⟨j, hj, rfl⟩ := map_at (Option.some.inj hd)
        have hl := (List.getElem?_eq_some_iff.mp hj).1
        rw [List.length_range] at hl
        rw [List.getElem?_range hl] at hj
        cases hj
        refine ⟨hl, fun y H' hy => ?_⟩
        obtain ⟨rfl, rfl⟩ := hy
        rw [Int.zero_add]
        exact ⟨Ext.refl _ _, a2, .inl (.int _)⟩
      · have hn := List.getElem?_eq_none_iff.mp (map_none (Option.some.inj hd))
        rw [List.length_range] at hn
        exact hn
    all_goals (cases hz; done)
  all_goals (cases hz; done)
theorem zip_at {A B : Type} : ∀ {l : List A} {m : List B} {i : Nat}, match (l.zip m)[i]? with
    | some q => l[i]? = some q.1 ∧ m[i]? = some q.2
    | none => l.length ≤ i ∨ m.length ≤ i
  | [], m, i => by simp
  | a :: l, [], i => by simp
  | a :: l, b :: m, 0 => by simp
  | a :: l, b :: m, i + 1 => by
    have h := zip_at (l := l) (m := m) (i := i)
    rw [List.zip_cons_cons, List.getElem?_cons_succ]
    revert h
    cases (l.zip m)[i]? with
    | none => simp
    | some q => simp
theorem zip_some {A B : Type} {l : List A} {m : List B} {i : Nat} {q : A × B} (h : (l.zip m)[i]? = some q) : l[i]? = some q.1 ∧ m[i]? = some q.2 := by
  have z := zip_at (l := l) (m := m) (i := i)
  rw [h] at z
  exact z
theorem zip_none {A B : Type} {l : List A} {m : List B} {i : Nat} (h : (l.zip m)[i]? = none) : l.length ≤ i ∨ m.length ≤ i := by
  have z := zip_at (l := l) (m := m) (i := i)
  rw [h] at z
  exact z
theorem i_zip {a b : Expr} {ia ib : E} {elts : List Expr} {kk : Nat} {p tpos : Pos} (hK : X.K = g.K) (hm : X.mg "zip" = none) (h1 : PE X a (rE g W (evE cal ia))) (h2 : PE X b (rE g W (evE cal ib))) (hg : Gl X "zip" := by rfl)
    (hs : starEach [a, b] X.env = (false, eval a X.env) :: starEach [b] X.env := by rfl) (hs2 : starEach [b] X.env = (false, eval b X.env) :: starEach [] X.env := by rfl) (hpl : (backTo pos (starEach [b] X.env)).any (·.1) = false := by rfl) :
    PI X (.Tuple elts kk tpos) (.Call (.Name "zip" p) [a, b] [] pos) (rI g W false (evI cal (.zip ia ib))) := by
  have h3 := RZ.pi_zipA (X := X) (elts := elts) (kk := kk) (tpos := tpos) (p := p) (pos := pos) hg hm (pa_cons h1 (pa_cons h2 pa_nil hs2) hs) hs hpl
  rw [hK] at h3
  refine pi_imp h3 fun σ H R q => ?_
  obtain ⟨α, S, q⟩ := q
  refine ⟨α, S, (rAt.bind (m := evE cal ia) (f := fun x ρ => M.bind (evE cal ib ρ) fun y => M.opt (srcZip x y)) q).imp fun x S1 α1 H1 e1 a1 h1 v tv => ⟨α1, S1, (rAt.bind (m := evE cal ib) (f := fun y _ => M.opt (srcZip x y)) h1).imp fun y S2 α2 H2 e2 a2 h2 u tu => ?_⟩⟩
  obtain ⟨z, hz, k⟩ := rAt.opt (o := fun _ => srcZip x y) h2
  have hz : srcZip x y = some z := hz
  have tv := tv.ext e2 a1
  unfold srcZip at hz
  split at hz
  · cases hz
    cases tv with
    | @tup c xs _ hq ha =>
      cases tu with
      | @tup d ys _ hr hb =>
        refine ⟨c, d, xs, ys, rfl, .inr ⟨hq.sq, hr.sq, k α2 H2 (Ext.refl _ _) a2 _ fun i α3 H3 S3 e3 a3 => ⟨fun dd hd => ?_, fun hd => ?_⟩⟩⟩
        · obtain ⟨q, hq1, rfl⟩ := map_at (Option.some.inj hd)
          have hz2 := zip_some hq1
          obtain ⟨v1, hv1, t1⟩ := ha.get hz2.1
          obtain ⟨v2, hv2, t2⟩ := hb.get hz2.2
          have s1 := sq_ext e3 a2 hq.sq
          have s2 := sq_ext e3 a2 hr.sq
          refine ⟨⟨xs, ys, v1, v2, s1, s2, hv1, hv2⟩, fun y H' hy => ?_⟩
          obtain ⟨T, y1, y2, rfl, hT, rfl, g1, g2⟩ := hy
          have e4 := g1 xs s1
          have e5 := g2 ys s2
          rw [hv1] at e4
          rw [hv2] at e5
          cases e4
          cases e5
          obtain ⟨e6, a6⟩ := At.fresh a3 hT (u := .tup [v1, v2])
          exact ⟨e6, a6, .inr ⟨rfl, T, _, _, rfl, rfl, .inl (.inl upd_same), .cons (t1.keep ((e3.trans e6).kt a2)) (.cons (t2.keep ((e3.trans e6).kt a2)) .nil)⟩⟩
        · have hn := map_none (Option.some.inj hd)
          have hz2 := zip_none hn
          refine ⟨xs, ys, sq_ext e3 a2 hq.sq, sq_ext e3 a2 hr.sq, ?_⟩
          rw [← ha.length, ← hb.length]
          exact hz2
  all_goals (cases hz; done)

/-! ### comprehensions -/
theorem calm_wp {β : Type} {m : M β} {S : Sto} {ok : β → Sto → Prop} {ex ex' : Ex → Sto → Prop} (h : wp (M.calm m S) ok ex) : wp (m S) ok ex' := by
  unfold M.calm at h
  cases e : m S with
  | val a S' => rw [e] at h; exact h
  | exc x S' => rw [e] at h; exact h.elim
  | bad => rw [e] at h; exact h.elim
theorem tLc_of {it : Wi} {tgs : List Nat} {ie : E} {σ : L2.St} {H : Hp} {Q : VK} (h : rLn g W (evL cal (.lc it tgs one ie)) σ H Q) :
    tLc (rI g W one (evI cal it)) (rG g tgs one) tYes (rE g W0 (evE cal ie)) tgs σ H Q := by
  obtain ⟨α, S, ρ, a, r, w⟩ := h
  have w : wp (M.bind (evI cal it ρ) (fun src => fun S => match src.size S with
    | some n => if n ≤ 100000 then lcGo src (fun d => M.calm (match tgt tgs one d (wipeD ρ tgs) with
        | some ρ' => evE cal ie ρ'
        | none => M.bad)) n 0 [] S else .bad
    | none => .bad) S) _ _ := w
  refine ⟨α, S, ρ, a, r, wp_mono (wp_bind w) (fun src S1 h1 α1 H1 e1 a1 J wk p hp => ?_) fun _ _ z => z⟩
  cases hn : src.size S1 with
  | none => rw [hn] at h1; exact h1.elim
  | some n =>
    rw [hn] at h1
    by_cases hl : n ≤ 100000
    · simp only [hl, if_true] at h1
      obtain ⟨ef, af⟩ := At.fresh a1 hp (u := .lst [])
      have hp0 : H p = none := e1.none a1 hp
      -- turn i, m turns are left, the heap H2: the rest of the run ends well
      let Wf : Nat → Nat → Hp → Prop := fun i m H2 => ∃ α2 S2 acc xs, Ext α1 α2 H1 H2 ∧ g.At α2 H2 S2 ∧ p ∉ α2 ∧ H2 p = some (.lst xs) ∧ g.TlA α2 H2 acc xs ∧ acc.length + m ≤ 100000 ∧
        wp (lcGo src (fun d => M.calm (match tgt tgs one d (wipeD ρ tgs) with | some ρ' => evE cal ie ρ' | none => M.bad)) m i acc S2)
          (fun ds S' => ∀ α' H', Ext α α' H H' → g.At α' H' S' → ∀ p xs, H p = none → p ∉ α' → H' p = some (.lst xs) → g.TlA α' H' ds xs → Q (.ref p) H') (exW g W α σ H)
      refine ⟨Wf, ⟨n, α1, S1, [], [], ef, af, a1.notin hp, upd_same, .nil, by simpa using hl, h1⟩, ?_⟩
      rintro i m H2 ⟨α2, S2, acc, xs, e2, a2, np, hx, tx, hl2, w2⟩
      have wki := wk i α2 H2 S2 e2 a2
      cases hat : src.at i S2 with
      | none => cases m <;> (simp only [lcGo, hat] at w2; exact w2.elim)
      | some o =>
        cases o with
        | none =>
          refine .inl ⟨wki.2 hat, ?_⟩
          have w3 : ∀ α' H', Ext α α' H H' → g.At α' H' S2 → ∀ p xs, H p = none → p ∉ α' → H' p = some (.lst xs) → g.TlA α' H' acc xs → Q (.ref p) H' := by
            cases m <;> (simp only [lcGo, hat] at w2; exact w2)
          exact w3 α2 H2 (e1.trans e2) a2 p xs hp0 np hx tx
        | some d =>
          cases m with
          | zero => simp only [lcGo, hat] at w2; exact w2.elim
          | succ m =>
            simp only [lcGo, hat] at w2
            obtain ⟨go, yl⟩ := wki.1 d hat
            refine .inr ⟨go, Wf (i + 1) m, fun H' q => ⟨m, Nat.lt_succ_self _, q⟩, fun x H' hy => ?_⟩
            obtain ⟨ey, ay, ty⟩ := yl x H' hy
            have w3 := wp_bind w2
            have w4 := calm_wp (ex' := fun _ _ => False) w3
            cases ht : tgt tgs one d (wipeD ρ tgs) with
            | none => rw [ht] at w4; exact w4.elim
            | some ρ' =>
              rw [ht] at w4
              have eH := (e1.trans (e2.trans ey))
              refine ⟨α2, S2, wipeD ρ tgs, d, ρ', ay, ((r.ext eH a).wipe tgs), ty, ht, fun σ' r' ag => ⟨ag.wipe.trans (Ag.wipe (σ := σ) (σ' := L2.wipe σ tgs) ⟨wipe_length _ _, fun j hj => by rw [wipe_get, if_neg (fun z => hj z.1)]⟩), ?_⟩⟩
              dsimp only [tYes]
              rw [if_pos rfl]
              refine ⟨α2, S2, ρ', ay, r', wp_mono w4 (fun z S3 w5 α3 H3 e3 a3 v tv => ?_) fun _ _ z => z.elim⟩
              have hx' : H' p = some (.lst xs) := ey.keep p _ hx np
              have hx3 : H3 p = some (.lst xs) := e3.keep p _ hx' np
              have np3 : p ∉ α3 := e3.notin hx' np
              have tx3 : g.TlA α3 H3 acc xs := TlA.ext (ey.trans e3) a2 tx
              have hlen : xs.length = acc.length := (Paired.length tx).symm
              refine ⟨xs, hx3, by rw [hlen]; exact Nat.lt_of_lt_of_le (by omega : acc.length < 100001) (by rw [sizeLine_eq]; decide), α3, S3, acc ++ [z], xs ++ [v], ?_, a3.apart hx3 np3, np3, upd_same, ?_, by rw [List.length_append, List.length_singleton]; omega, w5⟩
              · have ee := (e2.trans (ey.trans e3))
                exact ⟨ee.pre, fun b o hb n => by rw [upd_ne (fun z => by rw [z, hp] at hb; cases hb)]; exact ee.keep b o hb n, ee.new⟩
              · have kt : KT H3 (upd H3 p (.lst (xs ++ [v]))) := KT.lst hx3
                exact Paired.app (Paired.mapP tx3 fun _ _ q => q.keep kt) (.cons (tv.keep kt) .nil)
    · simp only [hl, if_false] at h1
      exact h1.elim
theorem l_lc {elt tg iter : Expr} {scope : Scope} {it : Wi} {ie : E} (own : List (Str × Nat)) {CX : CXT} {k : Nat} (G : Gd X g W CX cal k) (hi : PI X tg iter (rI g W one (evI cal it))) (ok : blkC X.N X.env.scope scope own = true)
    (hg : ∀ (s : Shared) (H : Hp) (C : Addr) (cl : List (Str × Addr)) (fp : List Addr), PG (X.blk s H scope (compEnvC scope cl C X.env) fp) tg (rG g (own.map (·.2)) one))
    (he : ∀ (s : Shared) (H : Hp) (C : Addr) (cl : List (Str × Addr)) (fp : List Addr), Gd (X.blk s H scope (compEnvC scope cl C X.env) fp) g W0 CX cal k → PE (X.blk s H scope (compEnvC scope cl C X.env) fp) elt (rE g W0 (evE cal ie)))
    (hs : ∀ x, foldedSetIterable iter X.env x = pure x := by intro _; rfl) : PE X (.ListComp elt [⟨tg, iter, [], 0⟩] scope pos) (rLn g W (evL cal (.lc it (own.map (·.2)) one ie))) :=
  pe_imp (pe_lc G.calm G.nd hi (blkOk_by ok) hg (fun _ _ _ _ _ => pts_nil) (fun s H C cl fp => he s H C cl fp (G.blk s H scope _ fp)) hs) fun _ _ _ q => tLc_of q
theorem tLcf_of {it : Wi} {tgs : List Nat} {ic ie : E} {σ : L2.St} {H : Hp} {Q : VK} (h : rLn g W (evL cal (.lcf it tgs one ic ie)) σ H Q) :
    tLc (rI g W one (evI cal it)) (rG g tgs one) (rT g W0 (evE cal ic)) (rE g W0 (evE cal ie)) tgs σ H Q := by
  obtain ⟨α, S, ρ, a, r, w⟩ := h
  have w : wp (M.bind (evI cal it ρ) (fun src => fun S => match src.size S with
    | some n => if n ≤ 100000 then lcGoF src (fun d => M.calm (match tgt tgs one d (wipeD ρ tgs) with
        | some ρ' => M.bind (evE cal ic ρ') fun x => M.bind (M.opt (asBool x)) fun k => if k = true then M.bind (evE cal ie ρ') fun z => M.pure (some z) else M.pure none
        | none => M.bad)) n 0 [] S else .bad
    | none => .bad) S) _ _ := w
  refine ⟨α, S, ρ, a, r, wp_mono (wp_bind w) (fun src S1 h1 α1 H1 e1 a1 J wk p hp => ?_) fun _ _ z => z⟩
  cases hn : src.size S1 with
  | none => rw [hn] at h1; exact h1.elim
  | some n =>
    rw [hn] at h1
    by_cases hl : n ≤ 100000
    · simp only [hl, if_true] at h1
      obtain ⟨ef, af⟩ := At.fresh a1 hp (u := .lst [])
      have hp0 : H p = none := e1.none a1 hp
      -- turn i, m turns are left, the heap H2: the rest of the run ends well
      let Wf : Nat → Nat → Hp → Prop := fun i m H2 => ∃ α2 S2 acc xs, Ext α1 α2 H1 H2 ∧ g.At α2 H2 S2 ∧ p ∉ α2 ∧ H2 p = some (.lst xs) ∧ g.TlA α2 H2 acc xs ∧ acc.length + m ≤ 100000 ∧
        wp (lcGoF src (fun d => M.calm (match tgt tgs one d (wipeD ρ tgs) with | some ρ' => (M.bind (evE cal ic ρ') fun x => M.bind (M.opt (asBool x)) fun k => if k = true then M.bind (evE cal ie ρ') fun z => M.pure (some z) else M.pure none) | none => M.bad)) m i acc S2)
          (fun ds S' => ∀ α' H', Ext α α' H H' → g.At α' H' S' → ∀ p xs, H p = none → p ∉ α' → H' p = some (.lst xs) → g.TlA α' H' ds xs → Q (.ref p) H') (exW g W α σ H)
      refine ⟨Wf, ⟨n, α1, S1, [], [], ef, af, a1.notin hp, upd_same, .nil, by simpa using hl, h1⟩, ?_⟩
      rintro i m H2 ⟨α2, S2, acc, xs, e2, a2, np, hx, tx, hl2, w2⟩
      have wki := wk i α2 H2 S2 e2 a2
      cases hat : src.at i S2 with
      | none => cases m <;> (simp only [lcGoF, hat] at w2; exact w2.elim)
      | some o =>
        cases o with
        | none =>
          refine .inl ⟨wki.2 hat, ?_⟩
          have w3 : ∀ α' H', Ext α α' H H' → g.At α' H' S2 → ∀ p xs, H p = none → p ∉ α' → H' p = some (.lst xs) → g.TlA α' H' acc xs → Q (.ref p) H' := by
            cases m <;> (simp only [lcGoF, hat] at w2; exact w2)
          exact w3 α2 H2 (e1.trans e2) a2 p xs hp0 np hx tx
        | some d =>
          cases m with
          | zero => simp only [lcGoF, hat] at w2; exact w2.elim
          | succ m =>
            simp only [lcGoF, hat] at w2
            obtain ⟨go, yl⟩ := wki.1 d hat
            refine .inr ⟨go, Wf (i + 1) m, fun H' q => ⟨m, Nat.lt_succ_self _, q⟩, fun x H' hy => ?_⟩
            obtain ⟨ey, ay, ty⟩ := yl x H' hy
            have w3 := wp_bind w2
            have w4 := calm_wp (ex' := fun _ _ => False) w3
            cases ht : tgt tgs one d (wipeD ρ tgs) with
            | none => rw [ht] at w4; exact w4.elim
            | some ρ' =>
              rw [ht] at w4
              have eH := (e1.trans (e2.trans ey))
              refine ⟨α2, S2, wipeD ρ tgs, d, ρ', ay, ((r.ext eH a).wipe tgs), ty, ht, fun σ' r' ag => ⟨ag.wipe.trans (Ag.wipe (σ := σ) (σ' := L2.wipe σ tgs) ⟨wipe_length _ _, fun j hj => by rw [wipe_get, if_neg (fun z => hj z.1)]⟩), ?_⟩⟩
              have hx' : H' p = some (.lst xs) := ey.keep p _ hx np
              refine ⟨α2, S2, ρ', ay, r', wp_mono (wp_bind w4) (fun x3 S3 w5 α3 H3 e3 a3 => ?_) fun _ _ z => z.elim⟩
              have hx3 : H3 p = some (.lst xs) := e3.keep p _ hx' np
              have np3 : p ∉ α3 := e3.notin hx' np
              have tx3 : g.TlA α3 H3 acc xs := TlA.ext (ey.trans e3) a2 tx
              have ee3 := e2.trans (ey.trans e3)
              have w6 := wp_bind w5
              cases eb : asBool x3 with
              | none => simp only [M.opt, eb] at w6; exact w6.elim
              | some b =>
                simp only [M.opt, eb] at w6
                refine ⟨b, asBool_of eb, ?_⟩
                cases b with
                | false =>
                  rw [if_neg (by decide)]
                  exact ⟨α3, S3, acc, xs, ee3, a3, np3, hx3, tx3, by omega, w6⟩
                | true =>
                  rw [if_pos rfl]
                  refine ⟨α3, S3, ρ', a3, r'.ext e3 ay, wp_mono (wp_bind w6) (fun z S4 w7 α4 H4 e4 a4 v tv => ?_) fun _ _ z => z.elim⟩
                  have hx4 : H4 p = some (.lst xs) := e4.keep p _ hx3 np3
                  have np4 : p ∉ α4 := e4.notin hx3 np3
                  have tx4 : g.TlA α4 H4 acc xs := TlA.ext e4 a3 tx3
                  have hlen : xs.length = acc.length := (Paired.length tx).symm
                  refine ⟨xs, hx4, by rw [hlen]; exact Nat.lt_of_lt_of_le (by omega : acc.length < 100001) (by rw [sizeLine_eq]; decide), α4, S4, acc ++ [z], xs ++ [v], ?_, a4.apart hx4 np4, np4, upd_same, ?_, by rw [List.length_append, List.length_singleton]; omega, w7⟩
                  · have ee := ee3.trans e4
                    exact ⟨ee.pre, fun b o hb n => by rw [upd_ne (fun z => by rw [z, hp] at hb; cases hb)]; exact ee.keep b o hb n, ee.new⟩
                  · have kt : KT H4 (upd H4 p (.lst (xs ++ [v]))) := KT.lst hx4
                    exact Paired.app (Paired.mapP tx4 fun _ _ q => q.keep kt) (.cons (tv.keep kt) .nil)
    · simp only [hl, if_false] at h1
      exact h1.elim
theorem l_lcf {elt tg iter c : Expr} {scope : Scope} {it : Wi} {ic ie : E} (own : List (Str × Nat)) {CX : CXT} {k : Nat} (G : Gd X g W CX cal k) (hi : PI X tg iter (rI g W one (evI cal it))) (ok : blkC X.N X.env.scope scope own = true)
    (hg : ∀ (s : Shared) (H : Hp) (C : Addr) (cl : List (Str × Addr)) (fp : List Addr), PG (X.blk s H scope (compEnvC scope cl C X.env) fp) tg (rG g (own.map (·.2)) one))
    (hc : ∀ (s : Shared) (H : Hp) (C : Addr) (cl : List (Str × Addr)) (fp : List Addr), Gd (X.blk s H scope (compEnvC scope cl C X.env) fp) g W0 CX cal k → PT (X.blk s H scope (compEnvC scope cl C X.env) fp) c (rT g W0 (evE cal ic)))
    (he : ∀ (s : Shared) (H : Hp) (C : Addr) (cl : List (Str × Addr)) (fp : List Addr), Gd (X.blk s H scope (compEnvC scope cl C X.env) fp) g W0 CX cal k → PE (X.blk s H scope (compEnvC scope cl C X.env) fp) elt (rE g W0 (evE cal ie)))
    (hs : ∀ x, foldedSetIterable iter X.env x = pure x := by intro _; rfl) : PE X (.ListComp elt [⟨tg, iter, [c], 0⟩] scope pos) (rLn g W (evL cal (.lcf it (own.map (·.2)) one ic ie))) :=
  pe_imp (pe_lc G.calm G.nd hi (blkOk_by ok) hg (fun s H C cl fp => pts_one (hc s H C cl fp (G.blk s H scope _ fp))) (fun s H C cl fp => he s H C cl fp (G.blk s H scope _ fp)) hs) fun _ _ _ q => tLcf_of q
end
end Ir
set_option Elab.async false
set_option maxRecDepth 100000
set_option maxHeartbeats 4000001
/-! Statements, a def's body, the table of defs. -/
namespace Ir
open PySem L2 PySem.Spec PyProof.Rows

def ends (g : Gc) (D : Ends) (σ' : L2.St) (α' : List Addr) (H' : Hp) : Ctl → Prop
  | .next => D.nx σ' H'
  | .brk => D.bk σ' H'
  | .cont => D.ct σ' H'
  | .ret d => ∀ v, g.Tl α' H' d v → D.rt v H'
def exA (g : Gc) (W : WX) (α : List Addr) (H : Hp) (e : Ex) (S' : Sto) : Prop := ∀ cls dx α' H' σ', Ext α α' H H' → g.At α' H' S' → g.TX e cls dx H' → W cls dx σ' H'
def sAt (g : Gc) (W : WX) (α : List Addr) (S : Sto) (m : Sl → M (Ctl × Sl)) : TS := fun D σ H => ∃ ρ, g.At α H S ∧ g.Sr α H σ ρ ∧ wp (m ρ S) (fun c S' => ∀ α' H' σ', Ext α α' H H' → g.At α' H' S' → g.Sr α' H' σ' c.2 → ends g D σ' α' H' c.1) (exA g W α H)
def rS (g : Gc) (W : WX) (m : Sl → M (Ctl × Sl)) : TS := fun D σ H => ∃ α S, sAt g W α S m D σ H
section
variable {g : Gc} {W : WX} {α : List Addr} {S : Sto} {β γ : Type} {σ : L2.St} {H : Hp}
/-- an expression, then the rest -/
theorem sAt.bind {m : Sl → M β} {f : β → Sl → M (Ctl × Sl)} {D : Ends} (h : sAt g W α S (fun ρ => M.bind (m ρ) fun b => f b ρ) D σ H) : rAt g W α S m σ H (fun b S' α' H' => sAt g W α' S' (f b) D σ H') := by
  obtain ⟨ρ, a, r, h⟩ := h
  refine ⟨ρ, a, r, wp_mono (wp_bind h) (fun b S' q α' H' e a' => ⟨ρ, a', r.ext e a, wp_mono q (fun c S2 q2 α2 H2 σ2 e2 a2 r2 => q2 α2 H2 σ2 (e.trans e2) a2 r2) fun x S2 z cls dx α2 H2 σ2 e2 a2 t => z cls dx α2 H2 σ2 (e.trans e2) a2 t⟩) fun x S' z cls dx α' H' e a' t => z cls dx α' H' σ e a' t⟩
theorem sAt.here {c : Ctl} {D : Ends} (h : sAt g W α S (fun ρ => M.pure (c, ρ)) D σ H) : ends g D σ α H c := by
  obtain ⟨ρ, a, r, h⟩ := h
  exact h α H σ (Ext.refl _ _) a r
/-- a statement, then the rest -/
theorem sAt.seq {m : Sl → M (Ctl × Sl)} {f : Sl → M (Ctl × Sl)} {D : Ends} (h : sAt g W α S (fun ρ => M.bind (m ρ) fun c => match c with | (.next, ρ') => f ρ' | c => M.pure c) D σ H) : sAt g W α S m { D with nx := rS g W f D } σ H := by
  obtain ⟨ρ, a, r, h⟩ := h
  refine ⟨ρ, a, r, wp_mono (wp_bind h) (fun c S' q α' H' σ' e a' r' => ?_) fun _ _ z => z⟩
  obtain ⟨c, ρ'⟩ := c
  cases c with
  | next => exact ⟨α', S', ρ', a', r', wp_mono q (fun c S2 q2 α2 H2 σ2 e2 a2 r2 => q2 α2 H2 σ2 (e.trans e2) a2 r2) fun x S2 z cls dx α2 H2 σ2 e2 a2 t => z cls dx α2 H2 σ2 (e.trans e2) a2 t⟩
  | brk => exact q α' H' σ' e a' r'
  | cont => exact q α' H' σ' e a' r'
  | ret d => exact q α' H' σ' e a' r'
end
section
variable {X : Cx} {g : Gc} {W : WX} {cal : Nat → List D → M D} {pos : Pos}
theorem ss_nil : PSs X [] (rS g W (exSs cal .nil)) := pss_imp pss_nil fun D σ H h => by
  obtain ⟨α, S, h⟩ := h
  exact h.here (c := .next)
theorem ss_cons {st : Stmt} {rest : List Stmt} {i : Ir.St} {is : Ss} (h1 : PS X st (rS g W (exS cal i))) (h2 : PSs X rest (rS g W (exSs cal is))) : PSs X (st :: rest) (rS g W (exSs cal (.cons i is))) := pss_imp (pss_cons h1 h2) fun D σ H h => by
  obtain ⟨α, S, h⟩ := h
  exact ⟨α, S, sAt.seq (m := exS cal i) (f := exSs cal is) h⟩
theorem asg_of {m : Sl → M D} {i : Nat} {D : Ends} {σ : L2.St} {H : Hp} (h : rS g W (fun ρ => M.bind (m ρ) fun d => M.pure (.next, ρ.set i (some d))) D σ H) : tAsg (rE g W m) (gName i) D σ H := by
  obtain ⟨α, S, h⟩ := h
  refine ⟨α, S, (sAt.bind (m := m) (f := fun d ρ => M.pure (.next, ρ.set i (some d))) h).imp fun d S1 α1 H1 e1 a1 h1 v tv => ?_⟩
  obtain ⟨ρ, a, r, h1⟩ := h1
  exact h1 α1 H1 _ (Ext.refl _ _) a (r.set tv)
theorem s_asg (i : Nat) {x : Str} {e : Expr} {ie : E} {p : Pos} (hN : X.N.Nodup) (he : PE X e (rE g W (evE cal ie))) (hi : X.N[i]? = some x := by rfl) (hx : Loc X.env.scope x := by first | exact Or.inl rfl | exact Or.inr rfl)
    (hs : swapsWith e (some (.Name x p)) pos.line X.env = pure false := by rfl) (hf : X.fn x = true ∨ X.env.scope.names.lookup x = some .local := by first | exact .inl rfl | exact .inr rfl) : PS X (.Assign [.Name x p] e pos) (rS g W (exS cal (.asg i ie))) :=
  ps_imp (ps_set hN hi hx he hs hf) fun _ _ _ h => asg_of h
/-- name = [.. for ..] -/
theorem s_asgLc (i : Nat) {y : Str} {py : Pos} {elt tg iter : Expr} {scope : Scope} {cpos : Pos} {it : Wi} {one : Bool} {ie : E} (own : List (Str × Nat)) {CX : CXT} {k : Nat} (G : Gd X g W CX cal k) (hi : PI X tg iter (rI g W one (evI cal it))) (ok : blkC X.N X.env.scope scope own = true)
    (hg : ∀ (s : Shared) (H : Hp) (C : Addr) (cl : List (Str × Addr)) (fp : List Addr), PG (X.blk s H scope (compEnvC scope cl C X.env) fp) tg (rG g (own.map (·.2)) one))
    (he : ∀ (s : Shared) (H : Hp) (C : Addr) (cl : List (Str × Addr)) (fp : List Addr), Gd (X.blk s H scope (compEnvC scope cl C X.env) fp) g W0 CX cal k → PE (X.blk s H scope (compEnvC scope cl C X.env) fp) elt (rE g W0 (evE cal ie)))
    (hsw : swapsWith (.ListComp elt [⟨tg, iter, [], 0⟩] scope cpos) (some (.Name y py)) pos.line X.env = pure true) (hy : X.N[i]? = some y := by rfl) (hyl : X.env.scope.names.lookup y = some .local := by rfl)
    (hs : ∀ x, foldedSetIterable iter X.env x = pure x := by intro _; rfl) : PS X (.Assign [.Name y py] (.ListComp elt [⟨tg, iter, [], 0⟩] scope cpos) pos) (rS g W (exS cal (.asg i (.lst (.lc it (own.map (·.2)) one ie))))) :=
  ps_imp (ps_setLc G.calm G.nd hy hyl hsw hi (blkOk_by ok) hg (fun _ _ _ _ _ => pts_nil) (fun s H C cl fp => he s H C cl fp (G.blk s H scope _ fp)) hs) fun D σ H h => by
    refine tLc_of (it := it) (ie := ie) ?_
    obtain ⟨α, S, ρ, a, r, w⟩ := h
    have w : wp (M.bind (M.bind (evL cal (.lc it (own.map (·.2)) one ie) ρ) fun ds => alloc (.lst ds)) (fun d => M.pure (Ctl.next, ρ.set i (some d))) S) _ _ := w
    refine ⟨α, S, ρ, a, r, wp_mono (wp_bind (wp_bind w)) (fun ds S1 h1 α1 H1 e1 a1 p xs hp hn hx tx => ?_) fun x S' z cls dx α' H' e a' t => z cls dx α' H' σ e a' t⟩
    unfold alloc at h1
    by_cases hb : rbO S1.length (.lst ds) = true
    · simp only [hb, if_true] at h1
      obtain ⟨a2, pre⟩ := At.take_in a1 hn (o := .lst ds) ⟨xs, hx, tx⟩ hb
      have e2 : Ext α (α1 ++ [p]) H H1 := ⟨fun i b h => pre i b (e1.pre i b h), e1.keep, fun b hb => by
        rcases List.mem_append.mp hb with z | z
        · exact e1.new b z
        · rw [List.mem_singleton] at z
          rw [z]
          exact .inr hp⟩
      refine h1 (α1 ++ [p]) H1 (σ.set i (some (.ref p))) e2 a2 ((r.ext e2 a).set ⟨p, ?_, rfl⟩)
      rw [← a1.len, List.getElem?_append_right (Nat.le_refl _)]
      simp
    · simp only [hb] at h1
      exact h1.elim
theorem s_asgLcf (i : Nat) {y : Str} {py : Pos} {elt tg iter : Expr} {scope : Scope} {cpos : Pos} {it : Wi} {one : Bool} {ic ie : E} {c : Expr} (own : List (Str × Nat)) {CX : CXT} {k : Nat} (G : Gd X g W CX cal k) (hi : PI X tg iter (rI g W one (evI cal it))) (ok : blkC X.N X.env.scope scope own = true)
    (hg : ∀ (s : Shared) (H : Hp) (C : Addr) (cl : List (Str × Addr)) (fp : List Addr), PG (X.blk s H scope (compEnvC scope cl C X.env) fp) tg (rG g (own.map (·.2)) one))
    (hc : ∀ (s : Shared) (H : Hp) (C : Addr) (cl : List (Str × Addr)) (fp : List Addr), Gd (X.blk s H scope (compEnvC scope cl C X.env) fp) g W0 CX cal k → PT (X.blk s H scope (compEnvC scope cl C X.env) fp) c (rT g W0 (evE cal ic)))
    (he : ∀ (s : Shared) (H : Hp) (C : Addr) (cl : List (Str × Addr)) (fp : List Addr), Gd (X.blk s H scope (compEnvC scope cl C X.env) fp) g W0 CX cal k → PE (X.blk s H scope (compEnvC scope cl C X.env) fp) elt (rE g W0 (evE cal ie)))
    (hsw : swapsWith (.ListComp elt [⟨tg, iter, [c], 0⟩] scope cpos) (some (.Name y py)) pos.line X.env = pure true) (hy : X.N[i]? = some y := by rfl) (hyl : X.env.scope.names.lookup y = some .local := by rfl)
    (hs : ∀ x, foldedSetIterable iter X.env x = pure x := by intro _; rfl) : PS X (.Assign [.Name y py] (.ListComp elt [⟨tg, iter, [c], 0⟩] scope cpos) pos) (rS g W (exS cal (.asg i (.lst (.lcf it (own.map (·.2)) one ic ie))))) :=
  ps_imp (ps_setLc G.calm G.nd hy hyl hsw hi (blkOk_by ok) hg (fun s H C cl fp => pts_one (hc s H C cl fp (G.blk s H scope _ fp))) (fun s H C cl fp => he s H C cl fp (G.blk s H scope _ fp)) hs) fun D σ H h => by
    refine tLcf_of (it := it) (ic := ic) (ie := ie) ?_
    obtain ⟨α, S, ρ, a, r, w⟩ := h
    have w : wp (M.bind (M.bind (evL cal (.lcf it (own.map (·.2)) one ic ie) ρ) fun ds => alloc (.lst ds)) (fun d => M.pure (Ctl.next, ρ.set i (some d))) S) _ _ := w
    refine ⟨α, S, ρ, a, r, wp_mono (wp_bind (wp_bind w)) (fun ds S1 h1 α1 H1 e1 a1 p xs hp hn hx tx => ?_) fun x S' z cls dx α' H' e a' t => z cls dx α' H' σ e a' t⟩
    unfold alloc at h1
    by_cases hb : rbO S1.length (.lst ds) = true
    · simp only [hb, if_true] at h1
      obtain ⟨a2, pre⟩ := At.take_in a1 hn (o := .lst ds) ⟨xs, hx, tx⟩ hb
      have e2 : Ext α (α1 ++ [p]) H H1 := ⟨fun i b h => pre i b (e1.pre i b h), e1.keep, fun b hb => by
        rcases List.mem_append.mp hb with z | z
        · exact e1.new b z
        · rw [List.mem_singleton] at z
          rw [z]
          exact .inr hp⟩
      refine h1 (α1 ++ [p]) H1 (σ.set i (some (.ref p))) e2 a2 ((r.ext e2 a).set ⟨p, ?_, rfl⟩)
      rw [← a1.len, List.getElem?_append_right (Nat.le_refl _)]
      simp
    · simp only [hb] at h1
      exact h1.elim
theorem s_unp {tg e : Expr} {is : List Nat} {ie : E} (he : PE X e (rE g W (evE cal ie))) (hg : PG X tg (rG g is false)) (hs : swapsWithSole [tg] e pos.line X.env = pure false := by rfl) (hw : swappedStores [tg] e X.env = pure none := by rfl)
    (h1 : (assignEach [tg] X.env).map (·.2) = [assign tg X.env] := by rfl) : PS X (.Assign [tg] e pos) (rS g W (exS cal (.unp is ie))) := ps_imp (ps_asg he hg hs hw h1) fun D σ H h => by
  obtain ⟨α, S, h⟩ := h
  refine ⟨α, S, (sAt.bind (m := evE cal ie) (f := fun d ρ => M.bind (M.opt (tgt is false d ρ)) fun ρ' => M.pure (.next, ρ')) h).imp fun d S1 α1 H1 e1 a1 h1 v tv => ?_⟩
  obtain ⟨ρ, a, r, h1⟩ := h1
  cases ht : tgt is false d ρ with
  | none => simp only [M.bind, M.opt, ht] at h1; exact h1.elim
  | some ρ' =>
    simp only [M.bind, M.opt, ht] at h1
    exact ⟨α1, S1, ρ, d, ρ', a, r, .inl tv, ht, fun σ' r' _ => h1 α1 H1 σ' (Ext.refl _ _) a r'⟩
theorem s_expr {e : Expr} {ie : E} (he : PE X e (rE g W (evE cal ie))) (hs : swapsWith e none pos.line X.env = pure false := by rfl) : PS X (.Expr e pos) (rS g W (exS cal (.expr ie))) := ps_imp (ps_expr he hs) fun D σ H h => by
  obtain ⟨α, S, h⟩ := h
  exact ⟨α, S, (sAt.bind (m := evE cal ie) (f := fun _ ρ => M.pure (.next, ρ)) h).imp fun d S1 α1 H1 e1 a1 h1 v tv => h1.here (c := .next)⟩
theorem s_ret {e : Expr} {ie : E} (he : PE X e (rE g W (evE cal ie))) : PS X (.Return (some e) pos) (rS g W (exS cal (.ret ie))) := ps_imp (ps_ret he) fun D σ H h => by
  obtain ⟨α, S, h⟩ := h
  exact ⟨α, S, (sAt.bind (m := evE cal ie) (f := fun d ρ => M.pure (.ret d, ρ)) h).imp fun d S1 α1 H1 e1 a1 h1 v tv => h1.here (c := .ret d) v tv⟩
theorem s_ite {c : Expr} {a b : List Stmt} {ic : E} {ia ib : Ss} (hc : PT X c (rT g W (evE cal ic))) (ha : PSs X a (rS g W (exSs cal ia))) (hb : PSs X b (rS g W (exSs cal ib))) : PS X (.If c a b pos) (rS g W (exS cal (.ite ic ia ib))) := ps_imp (ps_if hc ha hb) fun D σ H h => by
  obtain ⟨α, S, h⟩ := h
  refine ⟨α, S, (sAt.bind (m := evE cal ic) (f := fun x ρ => M.bind (M.opt (asBool x)) fun k => if k = true then exSs cal ia ρ else exSs cal ib ρ) h).imp fun x S1 α1 H1 e1 a1 h1 => ?_⟩
  obtain ⟨ρ, a, r, h1⟩ := h1
  cases hk : asBool x with
  | none => simp only [M.bind, M.opt, hk] at h1; exact h1.elim
  | some k =>
    simp only [M.bind, M.opt, hk] at h1
    refine ⟨k, asBool_of hk, ?_⟩
    cases k with
    | true => exact ⟨α1, S1, ρ, a, r, h1⟩
    | false => exact ⟨α1, S1, ρ, a, r, h1⟩
theorem s_for {tg iter : Expr} {body : List Stmt} {it : Wi} {tgs : List Nat} {one : Bool} {ib : Ss} (hp : PassesOwn (model X.prog X.w) X.A X.env X.xe) (hc : X.calm = true) (hi : PI X tg iter (rI g W one (evI cal it))) (hg : PG X tg (rG g tgs one)) (hb : PSs X body (rS g W (exSs cal ib)))
    (hs : ∀ x, foldedSetIterable iter X.env x = pure x := by intro _; rfl) : PS X (.For tg iter body [] pos) (rS g W (exS cal (.for_ it tgs one ib))) := ps_imp (ps_for hp hc hi hg hb hs) fun D σ H h => by
  obtain ⟨α, S, h⟩ := h
  refine ⟨α, S, (sAt.bind (m := evI cal it) (f := fun src ρ => fun S => match src.size S with
    | some n => forGo src (fun d ρ' => match tgt tgs one d ρ' with
        | some ρ'' => exSs cal ib ρ''
        | none => M.bad) n 0 ρ S
    | none => .bad) h).imp fun src S1 α1 H1 e1 a1 h1 J wk => ?_⟩
  obtain ⟨ρ1, a, r, h1⟩ := h1
  cases hn : src.size S1 with
  | none => simp only [hn] at h1; exact h1.elim
  | some n =>
    simp only [hn] at h1
    let Wf : Nat → Nat → L2.St → Hp → Prop := fun i m σ2 H2 => ∃ α2 S2 ρ2, Ext α1 α2 H1 H2 ∧ g.At α2 H2 S2 ∧ g.Sr α2 H2 σ2 ρ2 ∧
      wp (forGo src (fun d ρ' => match tgt tgs one d ρ' with | some ρ'' => exSs cal ib ρ'' | none => M.bad) m i ρ2 S2)
        (fun c S' => ∀ α' H' σ', Ext α1 α' H1 H' → g.At α' H' S' → g.Sr α' H' σ' c.2 → ends g D σ' α' H' c.1) (exA g W α1 H1)
    refine ⟨Wf, ⟨n, α1, S1, ρ1, Ext.refl _ _, a, r, h1⟩, ?_⟩
    rintro i m σ2 H2 ⟨α2, S2, ρ2, e2, a2, r2, w2⟩
    have wki := wk i α2 H2 S2 e2 a2
    cases hat : src.at i S2 with
    | none => cases m <;> (simp only [forGo, hat] at w2; exact w2.elim)
    | some o =>
      cases o with
      | none =>
        refine .inl ⟨wki.2 hat, ?_⟩
        have w3 : ∀ α' H' σ', Ext α1 α' H1 H' → g.At α' H' S2 → g.Sr α' H' σ' ρ2 → ends g D σ' α' H' .next := by
          cases m <;> (simp only [forGo, hat] at w2; exact w2)
        exact w3 α2 H2 σ2 e2 a2 r2
      | some d =>
        cases m with
        | zero => simp only [forGo, hat] at w2; exact w2.elim
        | succ m =>
          simp only [forGo, hat] at w2
          obtain ⟨go, yl⟩ := wki.1 d hat
          refine .inr ⟨go, Wf (i + 1) m, fun σ' H' q => ⟨m, Nat.lt_succ_self _, q⟩, fun x H' hy => ?_⟩
          obtain ⟨ey, ay, ty⟩ := yl x H' hy
          have w3 := wp_bind w2
          cases ht : tgt tgs one d ρ2 with
          | none => rw [ht] at w3; exact w3.elim
          | some ρ' =>
            rw [ht] at w3
            refine ⟨α2, S2, ρ2, d, ρ', ay, r2.ext ey a2, ty, ht, fun σ' r' _ => ⟨α2, S2, ρ', ay, r', wp_mono w3 (fun c S3 w4 α3 H3 σ3 e3 a3 r3 => ?_) fun x S3 z cls dx α3 H3 σ3 e3 a3 t => z cls dx α3 H3 σ3 (e2.trans (ey.trans e3)) a3 t⟩⟩
            have ee := e2.trans (ey.trans e3)
            obtain ⟨c, ρ3⟩ := c
            cases c with
            | next => exact ⟨α3, S3, ρ3, ee, a3, r3, w4⟩
            | cont => exact ⟨α3, S3, ρ3, ee, a3, r3, w4⟩
            | brk => exact w4 α3 H3 σ3 ee a3 r3
            | ret d => exact w4 α3 H3 σ3 ee a3 r3
end
end Ir
set_option Elab.async false
set_option maxRecDepth 100000
set_option maxHeartbeats 4000001
/-! A def by its body; the table of all defs by levels. -/
namespace Ir
open PySem L2 PySem.Spec PyProof.Rows
section
variable {g : Gc} {α α' : List Addr} {H H' : Hp} {S' : Sto}
theorem ext_cut (e : Ext α α' H H') : Ext α (α'.take α.length) H H' := ⟨fun i a h => by
    rw [List.getElem?_take_of_lt (List.getElem?_eq_some_iff.mp h).1]
    exact e.pre i a h, e.keep, fun a h => e.new a (List.mem_of_mem_take h)⟩
theorem fix_ok {n : Nat} {d : D} {v : V} {Q : VK} {ex : Ex → Sto → Prop} (hn : α.length = n) (e : Ext α α' H H') (a : g.At α' H' S') (t : g.Tl α' H' d v)
    (w : wp (fix n d S') (fun d' S'' => ∀ α'' H'', Ext α α'' H H'' → g.At α'' H'' S'' → ∀ v, g.Tl α'' H'' d' v → Q v H'') ex) : Q v H' := by
  subst hn
  have ec := ext_cut e
  have ac := At.cut a α.length
  unfold fix at w
  cases d with
  | p d => exact w _ H' ec ac v t
  | fn i => exact w _ H' ec ac v t
  | ref j =>
    obtain ⟨b, hb, rfl⟩ := t
    by_cases hj : j < α.length
    · simp only [hj, if_true] at w
      exact w _ H' ec ac _ ⟨b, by rw [List.getElem?_take_of_lt hj]; exact hb, rfl⟩
    · simp only [hj, if_false] at w
      have hlt : j < S'.length := by rw [← a.len]; exact (List.getElem?_eq_some_iff.mp hb).1
      have ho : S'[j]? = some S'[j] := List.getElem?_eq_getElem hlt
      simp only [ho] at w
      by_cases hr : rbO α.length S'[j] = true
      · simp only [hr, if_true] at w
        have hl : (S'.take α.length).length = α.length := by rw [List.length_take]; omega
        have nin : b ∉ α'.take α.length := fun m => by
          obtain ⟨i, hi, e1⟩ := List.getElem_of_mem m
          have e2 : (α'.take α.length)[i]? = some b := by rw [List.getElem?_eq_getElem hi, e1]
          have hi2 : i < α.length := by rw [List.length_take] at hi; omega
          rw [List.getElem?_take_of_lt hi2] at e2
          have := nd_at a.nd e2 hb
          omega
        obtain ⟨a3, pre⟩ := At.take_in ac nin (o := S'[j]) ((a.obj j _ b ho hb).cut hr) (by rw [hl]; exact hr)
        refine w (α'.take α.length ++ [b]) H' ⟨fun i c h => pre i c (ec.pre i c h), ec.keep, fun c hc => ?_⟩ a3 _ ⟨b, ?_, rfl⟩
        · rcases List.mem_append.mp hc with z | z
          · exact ec.new c z
          · rw [List.mem_singleton] at z
            rw [z]
            exact e.new b (mem_at hb)
        · have hl2 : (α'.take α.length).length = α.length := by
            have := (List.getElem?_eq_some_iff.mp hb).1
            rw [List.length_take]
            omega
          rw [List.getElem?_append_right (by omega), hl2]
          simp
      · simp only [hr] at w
        exact w α' H' e a _ ⟨b, hb, rfl⟩
theorem sr_start : ∀ {ds : List D} {vs : List V} (n : Nat), g.TlA α H ds vs → g.Sr α H (vs.map some ++ List.replicate n none) (ds.map some ++ List.replicate n none) := fun {ds vs} n h => by
  refine ⟨by rw [List.length_append, List.length_append, List.length_map, List.length_map, Paired.length h]; simp, fun i d hi => ?_⟩
  by_cases hl : i < ds.length
  · rw [List.getElem?_append_left (by rw [List.length_map]; exact hl)] at hi
    rw [List.getElem?_append_left (by rw [List.length_map, ← Paired.length h]; exact hl)]
    obtain ⟨d', hd, e⟩ := map_at hi
    cases e
    obtain ⟨v, hv, t⟩ := Paired.get h hd
    exact ⟨v, by rw [List.getElem?_map, hv]; rfl, t⟩
  · rw [List.getElem?_append_right (by rw [List.length_map]; omega)] at hi
    have := List.getElem?_eq_some_iff.mp hi
    obtain ⟨hlt, e⟩ := this
    rw [List.getElem_replicate] at e
    cases e
end
section
variable {P : Program} {w : World} {g : Gc} {mg : Str → Option Value} {base : Heap} {cal : Nat → List D → M D}
/-- the defs, all at one level -/
def Tb (P : Program) (w : World) (g : Gc) (mg : Str → Option Value) (base : Heap) (cal : Nat → List D → M D) (k : Nat) : Prop :=
  ∀ i f, g.ph i = some f → ∃ fd ps, FnOk P w g.K mg base CX0 k f fd ps (spI g (cal i)) ∧ PySem.W.keepIn g.K (.ref f) = true ∧ Binds g.K fd ps []
theorem fn_ok {x qual : Str} {st : Stmt} {f : Addr} {fd : FuncData} {N ps : List Str} {k : Nat} {fn : Fn} (F : Fun g.K x qual st f fd) (S : FnScope N ps (defScope st)) (tb : Tb P w g mg base cal k) (har : fn.ar = ps.length) (hsz : fn.sz = N.length)
    (hb : ∀ (cdv : Value) (A : Around) (outer : List Env) (s : Shared) (H : Hp) (E : XK), Gd (cxOf CX0 P w g.K mg base N qual (defScope st) f cdv A outer s H E).nox g W0 CX0 cal k →
      PSs (cxOf CX0 P w g.K mg base N qual (defScope st) f cdv A outer s H E).nox (defBody st) (rS g W0 (exSs cal fn.body))) : FnOk P w g.K mg base CX0 (k + 1) f fd ps (spI g (callF cal fn)) := by
  have hl : ∀ {α : List Addr} {H : Hp} {ds : List D} {vs : List V} {S : Sto} {ok : D → Sto → Prop} {ex : Ex → Sto → Prop}, g.TlA α H ds vs → wp (callF cal fn ds S) ok ex → ds.length = fn.ar := fun {α H ds vs S ok ex} t q => by
    unfold callF at q
    by_cases h : ds.length = fn.ar
    · exact h
    · simp only [h, if_false] at q
      exact q.elim
  refine F.ok S (fun vs H Q E h => ?_) (fun cdv A outer s H vs Q E hr h => ?_)
  · obtain ⟨α, S, ds, a, t, q⟩ := h
    rw [← har, ← hl t q, Paired.length t]
  · obtain ⟨α, S0, ds, a, t, q⟩ := h
    have hlen := hl t q
    refine ⟨_, hb cdv A outer s H E ⟨rfl, rfl, S.nd, hr, fun _ _ _ _ _ _ _ z => z.elim, fun _ _ _ _ _ z => z, tb⟩, α, S0, ds.map some ++ List.replicate (fn.sz - fn.ar) none, a, ?_, ?_⟩
    · unfold L2.start
      have e : N.length - vs.length = fn.sz - fn.ar := by rw [hsz, ← hlen, Paired.length t]
      rw [e]
      exact sr_start _ t
    · unfold callF at q
      simp only [hlen, if_true] at q
      cases r : exSs cal fn.body (ds.map some ++ List.replicate (fn.sz - fn.ar) none) S0 with
      | bad => rw [r] at q; exact q.elim
      | exc e S' => rw [r] at q; exact q.elim
      | val c S' =>
        rw [r] at q
        obtain ⟨c, ρ'⟩ := c
        cases c with
        | brk => exact q.elim
        | cont => exact q.elim
        | next => exact fun α' H' σ' e a' _ => fix_ok a.len e a' (d := .p .none) (v := .non) .non q
        | ret d => exact fun α' H' σ' e a' _ v tv => fix_ok a.len e a' tv q
theorem tb_zero (h : ∀ i f, g.ph i = some f → ∃ fd ps, (∀ vs H Q E, spI g (fun _ _ => .bad) vs H Q E → vs.length = ps.length) ∧ PySem.W.keepIn g.K (.ref f) = true ∧ Binds g.K fd ps []) : Tb P w g mg base (fun _ _ _ => .bad) 0 := fun i f hf => by
  obtain ⟨fd, ps, hl, hk, hb⟩ := h i f hf
  refine ⟨fd, ps, ⟨hl, fun A outer s H args us vs Q E _ _ _ _ hs => ?_⟩, hk, hb⟩
  obtain ⟨α, S, ds, a, t, q⟩ := hs
  exact q.elim
end
end Ir
set_option Elab.async false
set_option maxRecDepth 100000
set_option maxHeartbeats 4000001
/-! Lists compared, cut, joined; methods of lists and dicts. -/
namespace Ir
open PySem L2 PySem.Spec PyProof.Rows
section
variable {X : Cx} {g : Gc} {W : WX} {cal : Nat → List D → M D} {pos : Pos}
theorem eqL_of {neg : Bool} {ds es : List D} {z : D} {α : List Addr} {H : Hp} {p q : Addr} {xs ys : List V} {Q : VK} (h : eqLD neg ds es = some z) (hx : H p = some (.lst xs)) (hy : H q = some (.lst ys)) (tx : g.TlA α H ds xs) (ty : g.TlA α H es ys) (k : ∀ v, g.Tl α H z v → Q v H) :
    if neg = true then rNeD g.K (.ref p) (.ref q) H Q else rEqD g.K (.ref p) (.ref q) H Q := by
  obtain ⟨ps, e1, h⟩ := Option.bind_eq_some_iff.mp h
  obtain ⟨qs, e2, h⟩ := Option.bind_eq_some_iff.mp h
  by_cases hs : SeqAt.shaped (.list ps) = true ∧ SeqAt.shaped (.list qs) = true
  · simp only [hs, and_self, if_true] at h
    cases h
    have d1 : Dp g.K H (.ref p) (.list ps) := .lst (SqL.of hx) (dpAll_of tx e1)
    have d2 : Dp g.K H (.ref q) (.list qs) := .lst (SqL.of hy) (dpAll_of ty e2)
    have ev : PyData.eqv (.list ps) (.list qs) = PyData.eqvAll ps qs := by rw [PyData.eqv]
    cases neg with
    | true =>
      rw [if_pos rfl]
      exact ⟨_, _, d1, d2, hs.1, hs.2, by rw [ev]; exact k _ (.bl _)⟩
    | false =>
      rw [if_neg (by decide)]
      exact ⟨_, _, d1, d2, hs.1, hs.2, by rw [ev]; exact k _ (.bl _)⟩
  · rw [if_neg hs] at h
    cases h
theorem tL_of {neg : Bool} {ma : Sl → M D} {mb : Sl → M (List D)} {σ : L2.St} {H : Hp} {Q : VK} (h : rE g W (fun ρ => M.bind (ma ρ) fun x => M.bind (mb ρ) fun es => fun S => M.opt ((lstAt S x).bind fun ds => eqLD neg ds es) S) σ H Q) :
    tOp (fun x y H Q => if neg = true then rNeD g.K x y H Q else rEqD g.K x y H Q) (rE g W ma) (rLn g W mb) σ H Q := by
  obtain ⟨α, S, h⟩ := h
  refine ⟨α, S, h.bind.imp fun x S1 α1 H1 e1 a1 h1 v tv => ⟨α1, S1, (rAt.bind (m := mb) (f := fun es _ => fun S => M.opt ((lstAt S x).bind fun ds => eqLD neg ds es) S) h1).imp fun es S2 α2 H2 e2 a2 h2 p ys hp hn hy ty => ?_⟩⟩
  obtain ⟨z, hz, k⟩ := h2.opt
  obtain ⟨ds, e0, hz⟩ := Option.bind_eq_some_iff.mp hz
  obtain ⟨b, xs, rfl, h5, h6⟩ := lst_at a2 (tv.ext e2 a1) e0
  exact eqL_of hz h5 hy h6 ty fun v t => k α2 H2 (Ext.refl _ _) a2 v t
theorem op_eqN (hu : X.A.units + 64 < cLine) : OpR X (compareOp .NotEq) (fun x y H Q => if true = true then rNeD X.K x y H Q else rEqD X.K x y H Q) := by
  have h := op_neD (X := X) hu
  intro pins s σ H x y v u Q I rx ry q
  rw [if_pos rfl] at q
  exact h pins s σ H x y v u Q I rx ry q
theorem op_eqE (hu : X.A.units + 64 < cLine) : OpR X (compareOp .Eq) (fun x y H Q => if false = true then rNeD X.K x y H Q else rEqD X.K x y H Q) := by
  have h := op_eqD (X := X) hu
  intro pins s σ H x y v u Q I rx ry q
  rw [if_neg (by decide)] at q
  exact h pins s σ H x y v u Q I rx ry q
theorem e_neL {a b : Expr} {ia : E} {l : L} {CX : CXT} {k : Nat} (G : Gd X g W CX cal k) (ha : PE X a (rE g W (evE cal ia))) (hb : PE X b (rLn g W (evL cal l))) (hm : behindInMarks .NotEq b = false := by first | exact nomark _ (by decide) (by decide) | rfl) :
    PE X (.Compare a [.NotEq] [b] pos) (rE g W (evE cal (.eqL true ia l))) := by
  have h := op_eqN (X := X) G.hu
  rw [G.K] at h
  exact pe_imp (pe_cmpR h ha hb hm) fun _ _ _ q => tL_of q
theorem t_neL {a b : Expr} {ia : E} {l : L} {CX : CXT} {k : Nat} (G : Gd X g W CX cal k) (ha : PE X a (rE g W (evE cal ia))) (hb : PE X b (rLn g W (evL cal l))) (hm : behindInMarks .NotEq b = false := by first | exact nomark _ (by decide) (by decide) | rfl) :
    PT X (.Compare a [.NotEq] [b] pos) (rT g W (evE cal (.eqL true ia l))) := by
  have h := op_eqN (X := X) G.hu
  rw [G.K] at h
  exact pt_imp (pt_cmpR h ha hb hm) fun _ _ _ q => t_of (fun _ z => tL_of z) q
theorem t_eqL {a b : Expr} {ia : E} {l : L} {CX : CXT} {k : Nat} (G : Gd X g W CX cal k) (ha : PE X a (rE g W (evE cal ia))) (hb : PE X b (rLn g W (evL cal l))) (hm : behindInMarks .Eq b = false := by first | exact nomark _ (by decide) (by decide) | rfl) :
    PT X (.Compare a [.Eq] [b] pos) (rT g W (evE cal (.eqL false ia l))) := by
  have h := op_eqE (X := X) G.hu
  rw [G.K] at h
  exact pt_imp (pt_cmpR h ha hb hm) fun _ _ _ q => t_of (fun _ z => tL_of z) q
theorem tLL_of {neg : Bool} {ma mb : Sl → M (List D)} {σ : L2.St} {H : Hp} {Q : VK} (h : rE g W (fun ρ => M.bind (ma ρ) fun ds => M.bind (mb ρ) fun es => M.opt (eqLD neg ds es)) σ H Q) :
    tOp (fun x y H Q => if neg = true then rNeD g.K x y H Q else rEqD g.K x y H Q) (rLn g W ma) (rLn g W mb) σ H Q := by
  obtain ⟨α, S, h⟩ := h
  refine ⟨α, S, h.bind.imp fun ds S1 α1 H1 e1 a1 h1 q xs hq hnq hx tx => ⟨α1, S1, (rAt.bind (m := mb) (f := fun es _ => M.opt (eqLD neg ds es)) h1).imp fun es S2 α2 H2 e2 a2 h2 p ys hp hn hy ty => ?_⟩⟩
  obtain ⟨z, hz, k⟩ := rAt.opt (o := fun _ => eqLD neg ds es) h2
  exact eqL_of hz (e2.keep q _ hx hnq) hy (TlA.ext e2 a1 tx) ty fun v t => k α2 H2 (Ext.refl _ _) a2 v t
theorem t_neLL {a b : Expr} {l l2 : L} {CX : CXT} {k : Nat} (G : Gd X g W CX cal k) (ha : PE X a (rLn g W (evL cal l))) (hb : PE X b (rLn g W (evL cal l2))) (hm : behindInMarks .NotEq b = false := by first | exact nomark _ (by decide) (by decide) | rfl) :
    PT X (.Compare a [.NotEq] [b] pos) (rT g W (evE cal (.eqLL true l l2))) := by
  have h := op_eqN (X := X) G.hu
  rw [G.K] at h
  exact pt_imp (pt_cmpR h ha hb hm) fun _ _ _ q => t_of (fun _ z => tLL_of z) q
theorem strs_tl {α : List Addr} {H : Hp} : ∀ ts : List Str, g.TlA α H (ts.map fun t => D.p (.str t)) (ts.map V.str)
  | [] => .nil
  | _ :: ts => .cons (.str _) (strs_tl ts)
theorem l_split {o : Expr} {io : E} {sep : Str} {j : Nat} {p2 apos : Pos} (ho : PE X o (rE g W (evE cal io))) (hbase : attributeBase o "split" X.env (eval o X.env) = eval o X.env := by rfl) (hline : (apos.endLine == pos.line) = true := by rfl) :
    PE X (.Call (.Attribute o "split" apos) [.Constant (.str sep) j p2] [] pos) (rLn g W (evL cal (.split io sep))) := pe_imp (pe_split ho pe_str rfl hbase hline) fun σ H Q h => by
  obtain ⟨α, S, ρ, a0, r, w⟩ := h
  have w : wp (M.bind (evE cal io ρ) (fun x => M.opt (splitD sep x)) S) _ _ := w
  refine ⟨α, S, ρ, a0, r, wp_mono (wp_bind w) (fun x S1 h1 α1 H1 e1 a1 v tv => ?_) fun _ _ z => z⟩
  cases e : splitD sep x with
  | none => simp only [M.opt, e] at h1; exact h1.elim
  | some ds =>
    simp only [M.opt, e] at h1
    unfold splitD at e
    split at e
    · split at e
      · rename_i hs
        cases e
        cases tv
        refine ⟨⟨_, rfl⟩, _, _, rfl, rfl, ?_, ?_, fun p hp => ?_⟩
        · simpa using hs.1
        · have := hs.2
          rw [sizeLine_eq]
          omega
        · obtain ⟨e2, a2⟩ := At.fresh a1 hp (u := .lst ((Txt.split _ sep).map V.str))
          refine h1 α1 _ (e1.trans e2) a2 p _ (e1.none a1 hp) (a1.notin hp) upd_same ?_
          exact strs_tl _
      · cases e
    · cases e
theorem l_cat {a b : Expr} {ia ib : E} (ha : PE X a (rE g W (evE cal ia))) (hb : PE X b (rE g W (evE cal ib))) : PE X (.BinOp a .Add b pos) (rLn g W (evL cal (.cat ia ib))) := pe_imp (pe_op op_cat ha hb) fun σ H Q h => by
  obtain ⟨α, S, ρ, a0, r, w⟩ := h
  have w : wp (M.bind (evE cal ia ρ) (fun x => M.bind (evE cal ib ρ) fun y => fun S => M.opt (catD S x y) S) S) _ _ := w
  refine ⟨α, S, ρ, a0, r, wp_mono (wp_bind w) (fun x S1 h1 α1 H1 e1 a1 v tv => ⟨α1, S1, ρ, a1, r.ext e1 a0, wp_mono (wp_bind h1) (fun y S2 h2 α2 H2 e2 a2 u tu => ?_) fun x S3 z cls dx α3 H3 e3 a3 t => z cls dx α3 H3 (e1.trans e3) a3 t⟩) fun _ _ z => z⟩
  cases e : catD S2 x y with
  | none => simp only [M.opt, e] at h2; exact h2.elim
  | some ds =>
    simp only [M.opt, e] at h2
    obtain ⟨d1, q1, e⟩ := Option.bind_eq_some_iff.mp e
    obtain ⟨d2, q2, e⟩ := Option.bind_eq_some_iff.mp e
    by_cases hl : d1.length + d2.length ≤ 100000
    · rw [if_pos hl] at e
      cases e
      obtain ⟨b1, xs, rfl, h5, h6⟩ := lst_at a2 (tv.ext e2 a1) q1
      obtain ⟨b2, ys, rfl, h7, h8⟩ := lst_at a2 tu q2
      refine ⟨b1, b2, xs, ys, rfl, rfl, h5, h7, by rw [← Paired.length h6, ← Paired.length h8, sizeLine_eq]; omega, fun p hp => ?_⟩
      have e12 := e1.trans e2
      obtain ⟨e3, a3⟩ := At.fresh a2 hp (u := .lst (xs ++ ys))
      exact h2 α2 _ (e12.trans e3) a3 p _ (e12.none a2 hp) (a2.notin hp) upd_same (Paired.app (TlA.ext e3 a2 h6) (TlA.ext e3 a2 h8))
    · rw [if_neg hl] at e
      cases e
theorem e_popAt {a b : Expr} {ia ib : E} {apos : Pos} (hK : X.K = g.K) (ha : PE X a (rE g W (evE cal ia))) (hb : PE X b (rE g W (evE cal ib))) (hbase : attributeBase a "pop" X.env (eval a X.env) = eval a X.env := by rfl)
    (hfew : ((backTo pos (starEach [b] X.env)).all (fun x => !x.1) && (backToKw pos (keywordEach [] X.env)).all (fun x => x.1.isSome)
      && decide (([b] : List Expr).length + ([] : List Keyword).length + (if ([] : List Keyword).isEmpty then 0 else 1) < 30)) = true := by rfl)
    (hline : (apos.endLine == pos.line) = true := by rfl) (hs : starEach [b] X.env = (false, eval b X.env) :: starEach [] X.env := by rfl) :
    PE X (.Call (.Attribute a "pop" apos) [b] [] pos) (rE g W (evE cal (.popAt ia ib))) := by
  have h := pe_bm PySem.F.plainAttrs_list PySem.F.slot_list_pop PySem.F.type_list_pop mt_popAt ha (pa_cons hb pa_nil hs) hbase hfew hline hs
  rw [hK] at h
  refine pe_imp h fun σ H Q h => ?_
  obtain ⟨α, S, h⟩ := h
  refine ⟨α, S, (rAt.bind (m := evE cal ia) (f := fun x ρ => M.bind (fun S => M.opt (lstAt S x) S) fun _ => M.bind (evE cal ib ρ) fun y => popD x y) h).imp fun x S1 α1 H1 e1 a1 h1 v tv => ?_⟩
  obtain ⟨ds, hds, k⟩ := (rAt.bind (m := fun _ => fun S => M.opt (lstAt S x) S) (f := fun _ ρ => M.bind (evE cal ib ρ) fun y => popD x y) h1).opt
  obtain ⟨b0, xs0, rfl, h5, h6⟩ := lst_at a1 tv hds
  refine ⟨.inl ⟨rfl, _, SqL.of h5⟩, α1, S1, (rAt.bind (m := evE cal ib) (f := fun y _ => popD x y) (k α1 H1 (Ext.refl _ _) a1)).imp fun y S2 α2 H2 e2 a2 h2 u tu => ?_⟩
  obtain ⟨ρ, a, r, w⟩ := h2
  have tv := tv.ext e2 a1
  have bad : ∀ {ok : D → Sto → Prop} {ex : Ex → Sto → Prop}, wp ((M.bad : M D) S2) ok ex → False := fun q => q
  cases x with
  | p _ => exact (bad w).elim
  | fn _ => exact (bad w).elim
  | ref j =>
    cases y with
    | ref _ => exact (bad w).elim
    | fn _ => exact (bad w).elim
    | p y =>
      cases y with
      | none => exact (bad w).elim
      | bool _ => exact (bad w).elim
      | str _ => exact (bad w).elim
      | list _ => exact (bad w).elim
      | tuple _ => exact (bad w).elim
      | dict _ => exact (bad w).elim
      | int i =>
        cases tu
        unfold popD at w
        by_cases hi : i = 0
        · subst hi
          simp only [if_true] at w
          cases ej : S2[j]? with
          | none => simp only [ej] at w; exact w.elim
          | some o =>
            cases o with
            | dic _ => simp only [ej] at w; exact w.elim
            | lst ds =>
              cases ds with
              | nil => simp only [ej] at w; exact w.elim
              | cons d ds =>
                simp only [ej] at w
                obtain ⟨b1, xs, h7, h8, h9⟩ := At.lst a2 ej
                obtain ⟨b2, h7', e⟩ := tv
                cases e
                rw [h7] at h7'
                cases h7'
                cases h9 with
                | @cons _ z _ zs t1 t2 =>
                  refine ⟨b0, z :: zs, 0, 0, z, rfl, rfl, h8, by decide, by decide, ?_, rfl, ?_⟩
                  · rw [List.length_cons]
                    exact seqIndex_of (by decide) (by omega)
                  · have hw := a2.wf j _ ej
                    have hb2 : rbO j (.lst ds) = true := by
                      have hw : (d :: ds).all (rb j) = true := hw
                      show ds.all (rb j) = true
                      rw [List.all_cons, Bool.and_eq_true] at hw
                      exact hw.2
                    obtain ⟨e6, a6⟩ := At.upd a2 h7 hb2 (u := .lst zs) fun H' kt hu => ⟨_, hu, Paired.mapP t2 fun _ _ q => q.keep kt⟩
                    exact w α2 _ e6 a6 z (t1.ext e6 a2)
        · simp only [hi, if_false] at w
          exact w.elim
theorem e_append {a b : Expr} {ia ib : E} {apos : Pos} (hK : X.K = g.K) (ha : PE X a (rE g W (evE cal ia))) (hb : PE X b (rE g W (evE cal ib))) (hbase : attributeBase a "append" X.env (eval a X.env) = eval a X.env := by rfl)
    (hfew : ((backTo pos (starEach [b] X.env)).all (fun x => !x.1) && (backToKw pos (keywordEach [] X.env)).all (fun x => x.1.isSome)
      && decide (([b] : List Expr).length + ([] : List Keyword).length + (if ([] : List Keyword).isEmpty then 0 else 1) < 30)) = true := by rfl)
    (hline : (apos.endLine == pos.line) = true := by rfl) (hs : starEach [b] X.env = (false, eval b X.env) :: starEach [] X.env := by rfl) :
    PE X (.Call (.Attribute a "append" apos) [b] [] pos) (rE g W (evE cal (.append ia ib))) := by
  have h := pe_bm PySem.F.plainAttrs_list PySem.F.slot_list_append PySem.F.type_list_append mt_append ha (pa_cons hb pa_nil hs) hbase hfew hline hs
  rw [hK] at h
  refine pe_imp h fun σ H Q h => ?_
  obtain ⟨α, S, h⟩ := h
  refine ⟨α, S, (rAt.bind (m := evE cal ia) (f := fun x ρ => M.bind (fun S => M.opt (lstAt S x) S) fun _ => M.bind (evE cal ib ρ) fun y => appD x y) h).imp fun x S1 α1 H1 e1 a1 h1 v tv => ?_⟩
  obtain ⟨ds, hds, k⟩ := (rAt.bind (m := fun _ => fun S => M.opt (lstAt S x) S) (f := fun _ ρ => M.bind (evE cal ib ρ) fun y => appD x y) h1).opt
  obtain ⟨b0, xs0, rfl, h5, h6⟩ := lst_at a1 tv hds
  refine ⟨.inl ⟨rfl, _, SqL.of h5⟩, α1, S1, (rAt.bind (m := evE cal ib) (f := fun y _ => appD x y) (k α1 H1 (Ext.refl _ _) a1)).imp fun y S2 α2 H2 e2 a2 h2 u tu => ?_⟩
  obtain ⟨ρ, a, r, w⟩ := h2
  have tv := tv.ext e2 a1
  have bad : ∀ {ok : D → Sto → Prop} {ex : Ex → Sto → Prop}, wp ((M.bad : M D) S2) ok ex → False := fun q => q
  cases x with
  | p _ => exact (bad w).elim
  | fn _ => exact (bad w).elim
  | ref j =>
    unfold appD at w
    cases ej : S2[j]? with
    | none => simp only [ej] at w; exact w.elim
    | some o =>
      cases o with
      | dic _ => simp only [ej] at w; exact w.elim
      | lst ds =>
        simp only [ej] at w
        by_cases hb : rb j y = true ∧ ds.length < 100000
        · simp only [hb, and_self, if_true] at w
          obtain ⟨b1, xs, h7, h8, h9⟩ := At.lst a2 ej
          obtain ⟨b2, h7', e⟩ := tv
          cases e
          rw [h7] at h7'
          cases h7'
          refine ⟨b0, xs, u, rfl, rfl, h8, by rw [← Paired.length h9, sizeLine_eq]; omega, ?_⟩
          have hw := a2.wf j _ ej
          have hb2 : rbO j (.lst (ds ++ [y])) = true := by
            have hw : ds.all (rb j) = true := hw
            show (ds ++ [y]).all (rb j) = true
            rw [List.all_append, Bool.and_eq_true]
            exact ⟨hw, by simp [hb.1]⟩
          obtain ⟨e6, a6⟩ := At.upd a2 h7 hb2 (u := .lst (xs ++ [u])) fun H' kt hu => ⟨_, hu, Paired.app (Paired.mapP h9 fun _ _ q => q.keep kt) (.cons (tu.keep kt) .nil)⟩
          exact w α2 _ e6 a6 .non .non
        · simp only [hb, if_false] at w
          exact w.elim
theorem e_dget {a b : Expr} {ia ib : E} {apos : Pos} {CX : CXT} {k : Nat} (G : Gd X g W CX cal k) (ha : PE X a (rE g W (evE cal ia))) (hb : PE X b (rE g W (evE cal ib))) (m : M1 X a "get" apos b pos := by exact ⟨rfl, rfl, rfl, rfl⟩) :
    PE X (.Call (.Attribute a "get" apos) [b] [] pos) (rE g W (evE cal (.dget ia ib))) := pe_imp (pe_dget1 (by have := G.hu; omega) ha hb m) fun σ H Q h => by
  obtain ⟨α, S, h⟩ := h
  refine ⟨α, S, (rAt.bind (m := evE cal ia) (f := fun x ρ => M.bind (fun S => M.opt (dicAt S x) S) fun _ => M.bind (evE cal ib ρ) fun y => fun S => M.opt (dgetD S x y) S) h).imp fun x S1 α1 H1 e1 a1 h1 v tv => ?_⟩
  obtain ⟨kvs, hds, k⟩ := (rAt.bind (m := fun _ => fun S => M.opt (dicAt S x) S) (f := fun _ ρ => M.bind (evE cal ib ρ) fun y => fun S => M.opt (dgetD S x y) S) h1).opt
  obtain ⟨b0, ws0, rfl, h5, h6⟩ := dic_at a1 tv hds
  refine ⟨b0, rfl, .inl ⟨ws0, .inl h5⟩, α1, S1, (rAt.bind (m := evE cal ib) (f := fun y _ => fun S => M.opt (dgetD S x y) S) (k α1 H1 (Ext.refl _ _) a1)).imp fun y S2 α2 H2 e2 a2 h2 u tu => ?_⟩
  obtain ⟨z, hz, k2⟩ := h2.opt
  obtain ⟨kv2, q1, hz⟩ := Option.bind_eq_some_iff.mp hz
  obtain ⟨key, q2, hz⟩ := Option.map_eq_some_iff.mp hz
  subst hz
  obtain ⟨b1, ws, e, h7, h8⟩ := dic_at a2 (tv.ext e2 a1) q1
  cases e
  rw [key_V tu q2]
  refine ⟨valV ws key, .k h7, k2 α2 H2 (Ext.refl _ _) a2 _ ?_⟩
  have vo := val_of (k := key) h8
  revert vo
  cases valD kv2 key <;> cases valV ws key <;> intro vo
  · exact .non
  · exact vo.elim
  · exact vo.elim
  · exact vo
end
end Ir
set_option Elab.async false
set_option maxRecDepth 100000
set_option maxHeartbeats 4000001
/-! How many unlike keys a comprehension in braces finds. -/
namespace Ir
open PySem L2 PySem.Spec PyProof.Rows
section
variable {K : PySem.W.Frag} {ph : Nat → Option Addr} {α α' : List Addr} {H H' : Hp} {S : Sto}
/-- neither a tuple nor locked -/
def Soft : HO → Prop
  | .tup _ => False
  | .frz _ _ => False
  | _ => True
theorem KT.soft {p : Addr} {o u : HO} (h : H p = some o) (n : Soft o) : KT H (L2.upd H p u) :=
  ⟨fun a _ q => by rw [upd_ne (fun z => by rw [z, h] at q; cases q; exact n)]; exact q, fun a _ _ q => by rw [upd_ne (fun z => by rw [z, h] at q; cases q; exact n)]; exact q⟩
theorem At.apartS (x : At K ph α H S) {p : Addr} {o u : HO} (hp : H p = some o) (n : Soft o) (hn : p ∉ α) : At K ph α (L2.upd H p u) S :=
  ⟨x.len, x.nd, fun i w b hi hb => (x.obj i w b hi hb).keep (KT.soft hp n) (upd_ne fun z => hn (by rw [← z]; exact mem_at hb)), x.wf⟩
theorem unlike_le : ∀ l : List Str, (unlike l).length ≤ l.length
  | [] => Nat.le_refl _
  | x :: l => by
    have ih := unlike_le l
    unfold unlike
    split
    · rw [List.length_cons]
      omega
    · rw [List.length_cons, List.length_cons]
      omega
theorem unlike_snoc (z : Str) : ∀ l : List Str, (unlike (l ++ [z])).length = (unlike l).length + (if z ∈ l then 0 else 1)
  | [] => by simp [unlike]
  | x :: l => by
    have ih := unlike_snoc z l
    rw [List.cons_append]
    unfold unlike
    by_cases h1 : x ∈ l
    · rw [if_pos (List.mem_append_left _ h1), if_pos h1, ih]
      by_cases h2 : z ∈ l
      · rw [if_pos h2, if_pos (List.mem_cons_of_mem _ h2)]
      · by_cases e : z = x
        · subst e; exact absurd h1 h2
        · rw [if_neg h2, if_neg (by rw [List.mem_cons]; rintro (q | q); exact e q; exact h2 q)]
    · by_cases e : x = z
      · subst e
        rw [if_pos (List.mem_append_right _ (List.mem_singleton.mpr rfl)), if_neg h1, ih, if_neg h1, if_pos (List.mem_cons_self ..), List.length_cons]
      · have h3 : x ∉ l ++ [z] := by
          rw [List.mem_append, List.mem_singleton]
          rintro (q | q)
          · exact h1 q
          · exact e q
        rw [if_neg h3, if_neg h1, List.length_cons, List.length_cons, ih]
        by_cases h2 : z ∈ l
        · rw [if_pos h2, if_pos (List.mem_cons_of_mem _ h2)]
        · rw [if_neg h2, if_neg (by rw [List.mem_cons]; rintro (q | q); exact e q.symm; exact h2 q)]
end
/-- {elt for target in iter}: D the new set -/
def tSk (P : Program) (w : World) (wi : TI) (gg : TG) (te : TE) (vs : List Nat) : TE := fun σ H Q => wi σ H fun J H1 => ∀ D, H1 D = none →
  ∃ W : Nat → Nat → Hp → Prop, (∃ m, W 0 m (upd H1 D (SetK P w D (fun _ => false) 0))) ∧
    ∀ i m H, W i m H → (J.stop i H ∧ Q (.ref D) H) ∨
      (J.go i H ∧ ∃ Nx : Hp → Prop, (∀ H', Nx H' → ∃ m', m' < m ∧ W (i + 1) m' H') ∧ ∀ x H', J.yld i H x H' → gg x (wipe σ vs) H' fun σ2 H2 => wipe σ2 vs = wipe σ vs ∧
        te σ2 H2 fun y H4 => ∃ (k : Key) (T : Key → Bool) (n : Nat), y = kV k ∧ H4 D = some (SetK P w D T n) ∧ n + 1 < scanBound ∧ Nx (upd H4 D (SetK P w D (fun j => T j || decide (j = k)) (if T k = true then n else n + 1))))
theorem fresh_set (P : Program) (w : World) (h : Heap) : (h.push { cls := .type "set", dict := none, data := .set #[] 0 (.fresh 0 0 (!w.params.followText "set-order")) }).SetOf (mixKind P w) h.objs.size (fun _ => false) 0 := by
  refine ⟨_, #[], 0, _, Heap.get?_push_size _ rfl, ⟨rfl, rfl, rfl⟩, rfl, ?_, fun k => ?_, ?_, rfl, rfl⟩
  · intro e he
    simp at he
  · simp
  · decide
section
variable {X : Cx}
theorem pe_sk {elt tg iter : Expr} {scope : Scope} {own : List (Str × Nat)} {pos : Pos} {wi : TI} {gg : TG} {te : TE} (hc : X.calm = true) (hN : X.N.Nodup) (hi : PI X tg iter wi) (ok : BlkOk X.N X.env.scope scope own)
    (hg : ∀ (s : Shared) (H : Hp) (C : Addr) (cl : List (Str × Addr)) (fp : List Addr), PG (X.blk s H scope (compEnvC scope cl C X.env) fp) tg gg)
    (he : ∀ (s : Shared) (H : Hp) (C : Addr) (cl : List (Str × Addr)) (fp : List Addr), PE (X.blk s H scope (compEnvC scope cl C X.env) fp) elt te)
    (hs : ∀ x, foldedSetIterable iter X.env x = pure x := by intro _; rfl) : PE X (.SetComp elt [⟨tg, iter, [], 0⟩] scope pos) (tSk X.prog X.w wi gg te (own.map (·.2))) := by
  refine ⟨fun pins s σ H Q I h => ?_⟩
  rw [PpSet.eval_SetComp]
  have fr : ∀ y ∈ scope.names, y.2 = .free → ∃ c, X.env.cells.lookup y.1 = some c := fun y hy e => (ok.free y hy e).elim (fun k => I.ok.has _ (.inl k)) fun k => I.ok.has _ (.inr k)
  refine wpAny_comprehension_free (use := none) rfl hs (closure_ok fr) ok.kind (fun y hy e => by rw [ok.uniq y hy, e]) (thn (hi.run pins s σ H _ I h) fun xv sa hx => thn hx fun itv sb hb => ?_)
  obtain ⟨it, fp, tn, J, Hb, rfl, Ib, T, stb, fb, q⟩ := hb
  refine PpSet.newSet_ok (newEnv_comp ?_)
  -- the set
  obtain ⟨W, ⟨m0, w0⟩, turn⟩ := q sb.heap.objs.size (Ib.hok.fresh (Nat.le_refl _))
  generalize eS : SetK X.prog X.w sb.heap.objs.size (fun _ => false) 0 = o0 at w0
  have new : ObjOk X.prog X.w (upd Hb sb.heap.objs.size o0) (sb.heap.push { cls := .type "set", dict := none, data := .set #[] 0 (.fresh 0 0 (!X.w.params.followText "set-order")) }) sb.heap.objs.size o0 := by
    rw [← eS]
    exact setK_new (fresh_set _ _ _)
  have Ic : Inv X pins σ (upd Hb sb.heap.objs.size o0) { sb with heap := sb.heap.push { cls := .type "set", dict := none, data := .set #[] 0 (.fresh 0 0 (!X.w.params.followText "set-order")) } } := Ib.laid (t' := sb.toks) (fun b o e => Heap.get?_push_of_some _ e) (Nat.le_refl _) new
  have below : ∀ b ∈ fp, b < sb.heap.objs.size := fun b hb => let ⟨_, e, _⟩ := T.obj _ _ stb b hb; Heap.lt_size e
  have hsz : (sb.heap.push { cls := .type "set", dict := none, data := .set #[] 0 (.fresh 0 0 (!X.w.params.followText "set-order")) }).objs.size = sb.heap.objs.size + 1 := Heap.size_push _ _
  generalize eD : sb.heap.objs.size = D at *
  generalize eC : ({ sb with heap := sb.heap.push { cls := .type "set", dict := none, data := .set #[] 0 (.fresh 0 0 (!X.w.params.followText "set-order")) } } : Shared) = sc at *
  have eHeap : sc.heap = sb.heap.push { cls := .type "set", dict := none, data := .set #[] 0 (.fresh 0 0 (!X.w.params.followText "set-order")) } := by rw [← eC]
  have fc : ∀ b ∈ fp, FpOk X pins (upd Hb D o0) b ∧ b < sc.heap.objs.size := fun b hb => by
    have lt := below b hb
    refine ⟨⟨?_, (fb b hb).2⟩, by rw [eHeap, hsz]; exact Nat.lt_succ_of_lt lt⟩
    rw [upd_ne (Nat.ne_of_lt lt)]
    exact (fb b hb).1
  have stc : tn 0 sc.heap := T.keep _ _ _ stb fun b _ o e => by rw [eHeap]; exact Heap.get?_push_of_some _ e
  generalize eH : upd Hb D o0 = Hc at *
  have Id := block_start Ic ok hN fc
  have pg := hg sc Hc sc.heap.objs.size (cellsFrom (sc.heap.objs.size + 1) scope.names (cloFrom X.env.cells scope.names [])) fp
  have pe := he sc Hc sc.heap.objs.size (cellsFrom (sc.heap.objs.size + 1) scope.names (cloFrom X.env.cells scope.names [])) fp
  show codeAny _ _ (.compStart (.SetComp elt [⟨tg, iter, [], 0⟩] scope pos) 0 (.ref it) (.ref D) (compEnvC scope (cellsFrom (sc.heap.objs.size + 1) scope.names (cloFrom X.env.cells scope.names [])) sc.heap.objs.size X.env)) (compPost (model X.prog X.w) X.A X.xe none (EP X pins σ Q) (.ref D) sc.heap.objs.size) { sc with heap := pushCells (sc.heap.push { cls := .type "dict", data := .dict #[] }) scope.names }
  generalize eE : compEnvC scope (cellsFrom (sc.heap.objs.size + 1) scope.names (cloFrom X.env.cells scope.names [])) sc.heap.objs.size X.env = ce at Id pg pe ⊢
  have eL : ce.locals = sc.heap.objs.size := by rw [← eE]; rfl
  have std : tn 0 (pushCells (sc.heap.push { cls := .type "dict", data := .dict #[] }) scope.names) := T.keep _ _ _ stc fun b _ o e => pushCells_keeps _ _ _ _ (Heap.get?_push_of_some _ e)
  have fps : ∀ {σ' : L2.St} {H' : Hp} {s' : Shared}, Inv (X.blk sc Hc scope ce fp) [] σ' H' s' → (∀ b ∈ fp, H' b = none) → ∀ b ∈ fp, FpOk (X.blk sc Hc scope ce fp) [] H' b := fun {σ' H' s'} I' n b hb =>
    ⟨n b hb, (I'.ok.exf b hb).1, I'.ok.exfs b hb, .inl hb, fun x c e => (I'.ok.exf b hb).2 x c e, fun p hp => by cases hp⟩
  have loop : codeAny (model X.prog X.w) X.A (.compLoop (.SetComp elt [⟨tg, iter, [], 0⟩] scope pos) 0 (.ref it) (.ref D) ce) (compPost (model X.prog X.w) X.A X.xe none (EP X pins σ Q) (.ref D) sc.heap.objs.size) { sc with heap := pushCells (sc.heap.push { cls := .type "dict", data := .dict #[] }) scope.names } := by
    refine PpSet.compLoopS_any (fun n s' => ∃ i H', Inv (X.blk sc Hc scope ce fp) [] (wipe σ (own.map (·.2))) H' s' ∧ tn i s'.heap ∧ (∀ b ∈ fp, H' b = none) ∧ W i n H') ?_ m0 ⟨0, Hc, Id, std, fun b hb => (fc b hb).1.1, w0⟩
    rintro n s5 ⟨i, H5, I5, st5, n5, w5⟩
    rcases turn i n H5 w5 with ⟨stop, qq⟩ | ⟨go, Nx, hNx, step⟩
    · refine thnF (T.done (X.blk sc Hc scope ce fp) rfl rfl rfl hc i [] s5 _ H5 (fun _ _ => False) I5 (fps I5 n5) st5 stop) fun r s6 ⟨hr, I6⟩ => ?_
      subst hr
      have back : Inv X pins σ H5 s6 := Ic.call' (ch := fp) I6.os I6.base I6.hok I6.bare fun b hb => let z := (fc b hb).1.2; ⟨z.2.2.1, z.1, z.2.2.2.1, z.2.2.2.2⟩
      obtain ⟨m, hn, _⟩ := I6.loc
      have hn : s6.heap.Ns ce.locals m := hn
      have nC : H5 ce.locals = none := I6.free
      rw [eL] at hn nC
      obtain ⟨f0, f1, f2, f3, f4, f5⟩ := Ic.fpOk (Nat.le_refl _) nC
      exact ⟨m, hn, fun h'' sb' => ⟨.ref D, H5, back.turned (t' := s6.toks) (fun b o hb e => (sb'.2 b hb).trans e) f0 f1 f3 f4 f5, rfl, qq⟩⟩
    · refine thnF (T.item (X.blk sc Hc scope ce fp) rfl rfl rfl hc i [] s5 _ H5 (fun _ _ => False) I5 (fps I5 n5) st5 go) fun r s6 ⟨u, hr, h6⟩ => ?_
      subst hr
      refine thnF h6 fun _ s7 ⟨x, H7, I7, r7, y7, st7, n7⟩ => ?_
      refine thnF (pg.run _ s7 _ H7 x u _ (I7.pinned (fps I7 n7) (T.obj _ _ st7)) r7 (step x H7 y7)) fun _ s8 ⟨σ8, H8, I8, hw8, q8⟩ => ?_
      refine wpAny_tests_nil ?_
      rw [if_pos rfl]
      refine thnF (pe.run _ s8 σ8 H8 _ I8 q8) fun z s9 ⟨yv, H9, I9, r9, k, T0, n0, ey, hD9, room, nx⟩ => ?_
      subst ey
      refine call_set_add (kV_is r9) (key_scan r9) (setK_get (X := X.blk sc Hc scope ce fp) I9 hD9) room fun h' sb' new' => ?_
      have there : ∃ o, h'.get? D = some o := let ⟨o, _, _, _, ho, _⟩ := new'; ⟨o, ho⟩
      have I10 := I9.write (e := D) (t' := s9.toks + 1) (by rw [hD9]; trivial) (.inl rfl) (fun b o hb ho => (sb'.2 b hb).trans ho) there (setK_new (P := X.prog) (w := X.w) new')
      obtain ⟨m', hm, w'⟩ := hNx _ nx
      have pin' : ∀ b ∈ fp, ∀ o, s7.heap.get? b = some o → h'.get? b = some o ∧ _ = none := fun b hb o e => let z := I10.pin (b, o) (List.mem_append_right _ (List.mem_append_right _ (mem_pinsAt hb e))); ⟨z.1, z.2.1⟩
      refine ⟨m', hm, i + 1, _, (I10.unpinned (pins := [])).weak (by rw [← hw8, wipe_length]) fun j v e => ?_, T.keep _ _ _ st7 fun b hb o e => (pin' b hb o e).1, fun b hb => ?_, w'⟩
      · rw [← hw8] at e
        exact (wipe_some e).1
      · obtain ⟨o, e, _⟩ := T.obj _ _ st7 b hb
        exact (pin' b hb o e).2
  exact PpSet.codeAny_compStart_set loop (T.self X.A 0 _ _ _ std loop)
theorem len_sk {X : Cx} : CallR X (.builtin "len") (fun xs H Q => ∃ (p : Addr) (T : Key → Bool) (n : Nat), xs = [.ref p] ∧ H p = some (SetK X.prog X.w p T n) ∧ Q (.int n) H) := by
  intro pins s σ H xs us Q I r h
  obtain ⟨p, T, n, rfl, hp, q⟩ := h
  obtain ⟨u, rfl, ru⟩ := vals1 r
  cases ru
  obtain ⟨o, es, ep, t, ho, hex, hd, _, _, hb, hf, hn⟩ := setK_get I hp
  have hb : es.size < 4096 := hb
  exact call_len_set ho hex hd hf (by omega) ⟨.int n, H, I.tok _, ⟨_, by rw [hn]⟩, q⟩
theorem strs_back : ∀ zs : List Str, plainOf (zs.map fun z => D.p (.str z)) = some (zs.map .str) ∧ strsOf (zs.map PyData.str) = some zs
  | [] => ⟨rfl, rfl⟩
  | z :: zs => by
    have h := strs_back zs
    exact ⟨by simp [plainOf, h.1], by simp [strsOf, h.2]⟩
theorem strD_of {x d : D} (h : strD x = some d) : ∃ z, x = .p (.str z) ∧ d = .p (.str z) := by
  unfold strD at h
  split at h
  · cases h
    exact ⟨_, rfl, rfl⟩
  · cases h
variable {g : Gc} {W : WX} {cal : Nat → List D → M D} {pos : Pos}
theorem tSk_of {it : Wi} {tgs : List Nat} {one : Bool} {ie : E} {σ : L2.St} {H : Hp} {Q : VK} {P : Program} {w : World} (h : rE g W (evE cal (.lensc it tgs one ie)) σ H Q) :
    tSk P w (rI g W one (evI cal it)) (rG g tgs one) (rE g W0 (evE cal ie)) tgs σ H (fun v H' => ∃ (p : Addr) (T : Key → Bool) (n : Nat), [v] = [V.ref p] ∧ H' p = some (SetK P w p T n) ∧ Q (.int n) H') := by
  obtain ⟨α, S, ρ, a, r, q⟩ := h
  have q : wp (M.bind (evI cal it ρ) (fun src => M.bind (fun S => match src.size S with
    | some n => if n ≤ 1000 then lcGo src (fun d => M.calm (M.bind (match tgt tgs one d (wipeD ρ tgs) with
        | some ρ' => evE cal ie ρ'
        | none => M.bad) fun x => M.opt (strD x))) n 0 [] S else .bad
    | none => .bad) fun ds => M.opt (lensetLD ds)) S) _ _ := q
  refine ⟨α, S, ρ, a, r, wp_mono (wp_bind q) (fun src S1 h0 α1 H1 e1 a1 J wk p hp => ?_) fun _ _ z => z⟩
  have h1 := wp_bind h0
  cases hn : src.size S1 with
  | none => simp only [hn] at h1; exact h1.elim
  | some n =>
    simp only [hn] at h1
    by_cases hl : n ≤ 1000
    · simp only [hl, if_true] at h1
      obtain ⟨ef, af⟩ := At.fresh a1 hp (u := SetK P w p (fun _ => false) 0)
      let Wf : Nat → Nat → Hp → Prop := fun i m H2 => ∃ α2 S2 zs T, Ext α1 α2 H1 H2 ∧ g.At α2 H2 S2 ∧ p ∉ α2 ∧ H2 p = some (SetK P w p T (unlike zs).length) ∧ (∀ k : Key, T k = true ↔ ∃ z ∈ zs, k = .inr z) ∧ zs.length + m ≤ 1000 ∧
        wp (lcGo src (fun d => M.calm (M.bind (match tgt tgs one d (wipeD ρ tgs) with | some ρ' => evE cal ie ρ' | none => M.bad) fun x => M.opt (strD x))) m i (zs.map fun z => D.p (.str z)) S2)
          (fun ds S' => wp (M.opt (lensetLD ds) S') (fun d S' => ∀ α' H', Ext α α' H H' → g.At α' H' S' → ∀ v, g.Tl α' H' d v → Q v H') (exW g W α σ H)) (exW g W α σ H)
      refine ⟨Wf, ⟨n, α1, S1, [], fun _ => false, ef, af, a1.notin hp, upd_same, fun k => by simp, by simpa using hl, h1⟩, ?_⟩
      rintro i m H2 ⟨α2, S2, zs, T, e2, a2, np, hx, hT, hl2, w2⟩
      have wki := wk i α2 H2 S2 e2 a2
      cases hat : src.at i S2 with
      | none => cases m <;> (simp only [lcGo, hat] at w2; exact w2.elim)
      | some o =>
        cases o with
        | none =>
          refine .inl ⟨wki.2 hat, p, T, _, rfl, hx, ?_⟩
          have w3 : wp (M.opt (lensetLD (zs.map fun z => D.p (.str z))) S2) (fun d S' => ∀ α' H', Ext α α' H H' → g.At α' H' S' → ∀ v, g.Tl α' H' d v → Q v H') (exW g W α σ H) := by
            cases m <;> (simp only [lcGo, hat] at w2; exact w2)
          have hz : lensetLD (zs.map fun z => D.p (.str z)) = some (.p (.int (unlike zs).length)) := by
            unfold lensetLD
            rw [(strs_back zs).1]
            show (strsOf (zs.map PyData.str)).bind _ = _
            rw [(strs_back zs).2]
            show (if zs.length ≤ 1000 then some _ else none) = _
            rw [if_pos (by omega)]
          unfold M.opt at w3
          simp only [hz] at w3
          exact w3 α2 H2 (e1.trans e2) a2 _ (.int _)
        | some d =>
          cases m with
          | zero => simp only [lcGo, hat] at w2; exact w2.elim
          | succ m =>
            simp only [lcGo, hat] at w2
            obtain ⟨go, yl⟩ := wki.1 d hat
            refine .inr ⟨go, Wf (i + 1) m, fun H' q => ⟨m, Nat.lt_succ_self _, q⟩, fun x H' hy => ?_⟩
            obtain ⟨ey, ay, ty⟩ := yl x H' hy
            have w4 := wp_bind (calm_wp (ex' := fun _ _ => False) (wp_bind w2))
            cases ht : tgt tgs one d (wipeD ρ tgs) with
            | none => simp only [ht] at w4; exact w4.elim
            | some ρ' =>
              simp only [ht] at w4
              have eH := (e1.trans (e2.trans ey))
              refine ⟨α2, S2, wipeD ρ tgs, d, ρ', ay, ((r.ext eH a).wipe tgs), ty, ht, fun σ' r' ag => ⟨ag.wipe.trans (Ag.wipe (σ := σ) (σ' := L2.wipe σ tgs) ⟨wipe_length _ _, fun j hj => by rw [wipe_get, if_neg (fun z => hj z.1)]⟩), ?_⟩⟩
              refine ⟨α2, S2, ρ', ay, r', wp_mono w4 (fun z S3 w5 α3 H3 e3 a3 v tv => ?_) fun _ _ z => z.elim⟩
              have hx' : H' p = some (SetK P w p T (unlike zs).length) := ey.keep p _ hx np
              have hx3 : H3 p = some (SetK P w p T (unlike zs).length) := e3.keep p _ hx' np
              have np3 : p ∉ α3 := e3.notin hx' np
              cases hz : strD z with
              | none => unfold M.opt at w5; simp only [hz] at w5; exact w5.elim
              | some dz =>
                unfold M.opt at w5
                simp only [hz] at w5
                obtain ⟨t, rfl, rfl⟩ := strD_of hz
                cases tv
                have ul := unlike_snoc t zs
                refine ⟨.inr t, T, _, rfl, hx3, ?_, α3, S3, zs ++ [t], fun j => T j || decide (j = .inr t), ?_, a3.apartS hx3 True.intro np3, np3, ?_, fun k => ?_, ?_, ?_⟩
                · have := unlike_le zs
                  unfold scanBound
                  omega
                · have ee := (e2.trans (ey.trans e3))
                  exact ⟨ee.pre, fun b o hb n => by rw [upd_ne (fun z => by rw [z, hp] at hb; cases hb)]; exact ee.keep b o hb n, ee.new⟩
                · rw [upd_same, ul]
                  by_cases hm : t ∈ zs
                  · rw [if_pos ((hT _).mpr ⟨t, hm, rfl⟩), if_pos hm]
                    rfl
                  · rw [if_neg (fun z => by obtain ⟨u, hu, e⟩ := (hT _).mp z; cases e; exact hm hu), if_neg hm]
                · rw [Bool.or_eq_true, hT, decide_eq_true_eq]
                  constructor
                  · rintro (⟨z, hz, e⟩ | e)
                    · exact ⟨z, List.mem_append_left _ hz, e⟩
                    · exact ⟨t, List.mem_append_right _ (List.mem_singleton.mpr rfl), e⟩
                  · rintro ⟨z, hz, e⟩
                    rcases List.mem_append.mp hz with z1 | z1
                    · exact .inl ⟨z, z1, e⟩
                    · rw [List.mem_singleton] at z1
                      rw [z1] at e
                      exact .inr e
                · rw [List.length_append, List.length_singleton]
                  omega
                · rw [List.map_append]
                  exact w5
    · simp only [hl, if_false] at h1
      exact h1.elim
theorem e_lensc {elt tg iter : Expr} {scope : Scope} {cpos p : Pos} {it : Wi} {one : Bool} {ie : E} (own : List (Str × Nat)) {CX : CXT} {k : Nat} (G : Gd X g W CX cal k) (hm : X.mg "len" = none) (hi : PI X tg iter (rI g W one (evI cal it))) (ok : blkC X.N X.env.scope scope own = true)
    (hg : ∀ (s : Shared) (H : Hp) (C : Addr) (cl : List (Str × Addr)) (fp : List Addr), PG (X.blk s H scope (compEnvC scope cl C X.env) fp) tg (rG g (own.map (·.2)) one))
    (he : ∀ (s : Shared) (H : Hp) (C : Addr) (cl : List (Str × Addr)) (fp : List Addr), Gd (X.blk s H scope (compEnvC scope cl C X.env) fp) g W0 CX cal k → PE (X.blk s H scope (compEnvC scope cl C X.env) fp) elt (rE g W0 (evE cal ie)))
    (hgl : Gl X "len" := by rfl) (hs : ∀ x, foldedSetIterable iter X.env x = pure x := by intro _; rfl) :
    PE X (.Call (.Name "len" p) [.SetComp elt [⟨tg, iter, [], 0⟩] scope cpos] [] pos) (rE g W (evE cal (.lensc it (own.map (·.2)) one ie))) :=
  pe_imp (pe_callB len_sk hgl hm boot_len (pa_cons (pe_sk G.calm G.nd hi (blkOk_by ok) hg (fun s H C cl fp => he s H C cl fp (G.blk s H scope _ fp)) hs) pa_nil)) fun σ H Q q => tSk_of q
end
end Ir
set_option Elab.async false
set_option maxRecDepth 100000
set_option maxHeartbeats 4000001
/-! dict of a tuple of pairs; get of a written dict; len(set(..)) of a tuple of texts. -/
namespace Ir
open PySem L2 PySem.Spec PyProof.Rows
section
variable {X : Cx} {g : Gc} {W : WX} {cal : Nat → List D → M D} {pos : Pos}
/-- the pairs by their values -/
theorem prs_of {pins : List (Addr × Obj)} {σ : L2.St} {H : Hp} {s : Shared} (I : Inv X pins σ H s) : ∀ {ps : List Addr} {kvs : List (Key × V)}, Paired (fun p kv => SqT X.K H p [kV kv.1, kv.2]) ps kvs →
    ∃ (prs : List (Key × Value)) (vs : List (Value × Value)), KV kvs prs ∧ prs.length = ps.length ∧ vs.length = ps.length ∧
      ∀ (j : Nat) (q : Value × Value), vs[j]? = some q → ∃ (b : Addr) (k : Key), ps[j]? = some b ∧ prs[j]? = some (k, q.2) ∧ IsTup s.heap b #[q.1, q.2] ∧ keyIs k q.1 = true
  | _, _, .nil => ⟨[], [], .nil, rfl, rfl, fun j q e => by simp at e⟩
  | _, _, .cons (a := p) (b := kv) h t => by
    obtain ⟨prs, vs, r, h1, h2, hp⟩ := prs_of I t
    obtain ⟨its, rv, ht, _⟩ := I.tuple h
    obtain ⟨u, y, rfl, ru, ry⟩ := vals2 rv
    refine ⟨(kv.1, y) :: prs, (u, y) :: vs, .cons ⟨rfl, ry⟩ r, by rw [List.length_cons, List.length_cons, h1], by rw [List.length_cons, List.length_cons, h2], fun j q e => ?_⟩
    cases j with
    | zero =>
      cases (Option.some.inj e : (u, y) = q)
      exact ⟨p, kv.1, rfl, rfl, ht, kV_is (P := X.prog) (w := X.w) ru⟩
    | succ j =>
      obtain ⟨b, k, e1, e2, e3, e4⟩ := hp j q (by simpa using e)
      exact ⟨b, k, by simpa using e1, by simpa using e2, e3, e4⟩
theorem call_dictT (hc : X.calm = true) : CallR X (.type "dict") (fun xs H Q => ∃ (a : Addr) (ps : List Addr) (kvs : List (Key × V)), xs = [.ref a] ∧ Ht X.K H a (ps.map V.ref) ∧ Paired (fun p kv => SqT X.K H p [kV kv.1, kv.2]) ps kvs ∧ kvs.length ≤ 1000 ∧
    ∀ p, H p = none → Q (.ref p) (upd H p (.dK (mergeK [] kvs)))) := by
  intro pins s σ H xs us Q I r q
  obtain ⟨a, ps, kvs, rfl, hq, hp, hl, q⟩ := q
  obtain ⟨u, rfl, rx⟩ := vals1 r
  cases rx
  -- the argument's object
  have ob : ∃ (o : Obj) (n : Nat), s.heap.get? a = some o ∧ o.cls = .type "tuple" ∧ o.dict = none ∧ o.data = .seq (ps.map Value.ref).toArray n := by
    rcases hq with ⟨o, h1, h2⟩ | ⟨o, its, n, h1, h2, h3, h4, h5, h6⟩
    · obtain ⟨h3, h4, its, rv, o', h5, h6, n, h7⟩ := I.hok a _ h1
      rw [h3] at h5
      cases h5
      rw [refs_at rv] at h7
      exact ⟨o, n, h3, h6, h2, h7⟩
    · have e := refs_at h6
      exact ⟨o, n, I.kIn a o h1, h2, h3, by rw [h4, ← e]⟩
  obtain ⟨o, n, h1, h2, h3, h4⟩ := ob
  obtain ⟨prs, vs, rel, hl1, hl2, hpr⟩ := prs_of I hp
  have PA := PySem.PairArg.tuple (prog := X.prog) (w := X.w) a (ps.map Value.ref).toArray (fun j => ps.getD j 0) vs
  have okA : PlainSeq "tuple" s.heap a (ps.map Value.ref).toArray ∧ PairItems s.heap (ps.map Value.ref).toArray (fun j => ps.getD j 0) vs := by
    refine ⟨⟨o, n, h1, h2, h3, h4⟩, by simp [hl2], fun j k v e => ?_⟩
    obtain ⟨b, key, e1, e2, e3, e4⟩ := hpr j (k, v) e
    have eb : ps.getD j 0 = b := by rw [List.getD_eq_getElem?_getD, e1]; rfl
    exact ⟨by simp [e1], .inl (by show s.heap.IsTuple (ps.getD j 0) _; rw [eb]; exact e3)⟩
  have lenK : (mergeK [] kvs).length ≤ sizeLine := by
    have := length_mergeK kvs []
    rw [List.length_nil] at this
    rw [sizeLine_eq]
    omega
  have hn : vs.length = prs.length := by rw [hl1, hl2]
  refine PySem.call_dict_pairs (knd := mixKind X.prog X.w) (kvs := prs) PA (I.ok.hd hc) okA ⟨hn.symm, fun i key v e => ?_⟩ ?_ fun h' tk hd' hk => ?_
  · obtain ⟨b, k, e1, e2, e3, e4⟩ := hpr i (key, v) e
    exact ⟨k, e2, e4⟩
  · rw [hn, ← rel.length, sizeLine_eq]
    omega
  · refine ⟨.ref s.heap.objs.size, _, I.laid (t' := tk) (fun b o e => hk b o (fun z => by cases z) e) (Nat.le_refl _) (o := .dK (mergeK [] kvs)) ?_, rfl, q _ (I.hok.fresh (Nat.le_refl _))⟩
    exact ⟨lenK, beq_eq_false_iff_ne.mpr (Nat.ne_of_gt I.big), merged [] prs, KV.merge rel .nil, hd'⟩
/-- the dict of the store and the layer's, side by side -/
abbrev DP (g : Gc) (α : List Addr) (H : Hp) : List (Key × D) → List (Key × V) → Prop := Paired fun p q => p.1 = q.1 ∧ g.Tl α H p.2 q.2
theorem dp_any {α : List Addr} {H : Hp} {k : Key} : ∀ {kvs : List (Key × D)} {ws : List (Key × V)}, DP g α H kvs ws → (kvs.any fun kv => decide (kv.1 = k)) = ws.any fun kv => decide (kv.1 = k)
  | [], _, h => by cases h; rfl
  | _ :: _, _, h => by
    cases h with
    | cons a b => rw [List.any_cons, List.any_cons, dp_any b, a.1]
theorem dp_map {α : List Addr} {H : Hp} {k : Key} {d : D} {v : V} (t : g.Tl α H d v) : ∀ {kvs : List (Key × D)} {ws : List (Key × V)}, DP g α H kvs ws → DP g α H (kvs.map fun kv => if kv.1 = k then (kv.1, d) else kv) (ws.map fun kv => if kv.1 = k then (kv.1, v) else kv)
  | [], _, h => by cases h; exact .nil
  | (k1, d1) :: _, _, h => by
    cases h with
    | @cons _ q _ _ a b =>
      obtain ⟨k2, v2⟩ := q
      obtain ⟨e, a⟩ := a
      cases (e : k1 = k2)
      refine .cons ?_ (dp_map t b)
      show (if k1 = k then (k1, d) else (k1, d1)).1 = (if k1 = k then (k1, v) else (k1, v2)).1 ∧ g.Tl α H (if k1 = k then (k1, d) else (k1, d1)).2 (if k1 = k then (k1, v) else (k1, v2)).2
      by_cases z : k1 = k
      · rw [if_pos z, if_pos z]; exact ⟨rfl, t⟩
      · rw [if_neg z, if_neg z]; exact ⟨rfl, a⟩
theorem dp_put {α : List Addr} {H : Hp} {k : Key} {d : D} {v : V} (t : g.Tl α H d v) {kvs : List (Key × D)} {ws : List (Key × V)} (h : DP g α H kvs ws) : DP g α H (putD kvs k d) (putK ws k v) := by
  unfold putD putK
  rw [dp_any h]
  by_cases z : (ws.any fun kv => decide (kv.1 = k)) = true
  · rw [if_pos z, if_pos z]
    exact dp_map t h
  · rw [if_neg z, if_neg z]
    exact Paired.app h (.cons ⟨rfl, t⟩ .nil)
theorem dp_merge {α : List Addr} {H : Hp} : ∀ {more : List (Key × D)} {mv : List (Key × V)} {kvs : List (Key × D)} {ws : List (Key × V)}, DP g α H more mv → DP g α H kvs ws → DP g α H (more.foldl (fun acc kv => putD acc kv.1 kv.2) kvs) (mv.foldl (fun acc kv => putK acc kv.1 kv.2) ws)
  | [], _, _, _, h, k => by cases h; exact k
  | (k1, d1) :: _, _, _, _, h, k => by
    cases h with
    | @cons _ q _ _ a b =>
      obtain ⟨k2, v2⟩ := q
      obtain ⟨e, a⟩ := a
      cases (e : k1 = k2)
      have z := dp_merge b (dp_put (k := k1) a k)
      exact z
theorem pairs_tp {H : Hp} {α : List Addr} : ∀ {ds : List PyData} {xs : List V} {kvs : List (Key × D)}, TpA g.K H ds xs → pairsOf ds = some kvs →
    ∃ (ps : List Addr) (ws : List (Key × V)), xs = ps.map V.ref ∧ Paired (fun p kv => SqT g.K H p [kV kv.1, kv.2]) ps ws ∧ DP g α H kvs ws
  | [], _, _, h, e => by cases h; cases e; exact ⟨[], [], rfl, .nil, .nil⟩
  | d :: ds, _, kvs, h, e => by
    cases h with
    | @cons _ v _ vs a b =>
      cases d <;> first | (simp [pairsOf] at e; done) | skip
      rename_i qs
      match qs, e, a with
      | [], e, _ => simp [pairsOf] at e
      | [_], e, _ => simp [pairsOf] at e
      | _ :: _ :: _ :: _, e, _ => simp [pairsOf] at e
      | [kd, vd], e, a =>
        have e : ((keyOf (.p kd)).bind fun k => (pairsOf ds).map ((k, .p vd) :: ·)) = some kvs := e
        obtain ⟨key, e1, e⟩ := Option.bind_eq_some_iff.mp e
        obtain ⟨kr, e2, e⟩ := Option.map_eq_some_iff.mp e
        subst e
        obtain ⟨ps, ws, rfl, h1, h2⟩ := pairs_tp b e2
        cases a with
        | @tup c xs _ hq ha =>
          cases ha with
          | cons t1 r1 =>
            cases r1 with
            | cons t2 r2 =>
              cases r2
              have ek := key_V (ph := g.ph) (α := α) (d := .p kd) t1 e1
              refine ⟨c :: ps, (key, _) :: ws, rfl, .cons ?_ h1, .cons ⟨rfl, t2⟩ h2⟩
              have hq := hq.sq
              rw [ek] at hq
              exact hq
theorem e_dictOf {a : Expr} {ia : E} {p : Pos} (hc : X.calm = true) (hK : X.K = g.K) (hm : X.mg "dict" = none) (ha : PE X a (rE g W (evE cal ia))) (hg : Gl X "dict" := by rfl) (hs : starEach [a] X.env = (false, eval a X.env) :: starEach [] X.env := by rfl) :
    PE X (.Call (.Name "dict" p) [a] [] pos) (rE g W (evE cal (.dictOf ia))) := by
  have h := call_dictT (X := X) hc
  rw [hK] at h
  refine pe_imp (pe_callTy h hg hm (by decide +kernel) (pa_cons ha pa_nil hs) (he := hs)) fun σ H Q h => ?_
  obtain ⟨α, S, ρ, a0, r, w⟩ := h
  have w : wp (M.bind (evE cal ia ρ) (fun x => M.bind (M.opt (dictD x)) fun kvs => alloc (.dic kvs)) S) _ _ := w
  refine ⟨α, S, ρ, a0, r, wp_mono (wp_bind w) (fun x S1 h1 α1 H1 e1 a1 v tv => ?_) fun _ _ z => z⟩
  cases e : dictD x with
  | none => simp only [M.bind, M.opt, e] at h1; exact h1.elim
  | some kvs =>
    simp only [M.bind, M.opt, e] at h1
    unfold dictD at e
    split at e
    · obtain ⟨kv, e2, e⟩ := Option.bind_eq_some_iff.mp e
      by_cases hl : kv.length ≤ 1000
      · rw [if_pos hl] at e
        cases e
        cases tv with
        | tup hq hx =>
          obtain ⟨ps, ws, rfl, h2, h3⟩ := pairs_tp (α := α1) hx e2
          refine ⟨_, ps, ws, rfl, hq, h2, by rw [← Paired.length h3]; exact hl, fun q hq0 => ?_⟩
          obtain ⟨ef, af⟩ := At.fresh a1 hq0 (u := .dK (mergeK [] ws))
          have dm : DP g α1 (upd H1 q (.dK (mergeK [] ws))) (mergeD kv) (mergeK [] ws) := by
            have h3' : DP g α1 (upd H1 q (.dK (mergeK [] ws))) kv ws := Paired.mapP h3 fun _ _ z => ⟨z.1, z.2.ext ef a1⟩
            exact dp_merge h3' .nil
          unfold alloc at h1
          by_cases hb : rbO S1.length (.dic (mergeD kv)) = true
          · simp only [hb, if_true] at h1
            obtain ⟨a2, pre⟩ := At.take_in af (a1.notin hq0) (o := .dic (mergeD kv)) ⟨_, upd_same, dm⟩ hb
            have e12 := e1.trans ef
            refine h1 (α1 ++ [q]) _ ⟨fun i b h => pre i b (e12.pre i b h), e12.keep, fun b hb => ?_⟩ a2 _ ⟨q, ?_, rfl⟩
            · rcases List.mem_append.mp hb with z | z
              · exact e12.new b z
              · rw [List.mem_singleton] at z
                rw [z]
                exact .inr (e1.none a1 hq0)
            · rw [← a1.len, List.getElem?_append_right (Nat.le_refl _)]
              simp
          · simp only [hb] at h1
            exact h1.elim
      · rw [if_neg hl] at e
        cases e
    · cases e

/-! ### get of a dict of the module with text keys -/
structure Wd (g : Gc) (w : World) (mg : Str → Option Value) (x : Str) (kvs : List (Str × PyData)) : Prop where
  ex : ∃ a es n, mg x = some (.ref a) ∧ g.K.lookup a = some ⟨.type "dict", none, .dict es n, #[]⟩ ∧ PySem.W.KeysLit w.params es.toList ∧ (a == sysModules) = false ∧
    Paired (fun (e : DictEntry) (p : Str × PyData) => (∃ t, e.key = .str p.1 t) ∧ ∃ v, RelV v e.val ∧ ∀ H, Tp g.K H p.2 v) es.toList kvs
theorem find_wd {g : Gc} {z : Str} : ∀ {l : List DictEntry} {kvs : List (Str × PyData)}, Paired (fun (e : DictEntry) (p : Str × PyData) => (∃ t, e.key = .str p.1 t) ∧ ∃ v, RelV v e.val ∧ ∀ H, Tp g.K H p.2 v) l kvs →
    ∃ v, RelV v (((l.find? fun e => Value.isStrOf z e.key).map (·.val)).getD .none) ∧ ∀ H, Tp g.K H ((kvs.lookup z).getD .none) v
  | [], _, h => by cases h; exact ⟨.non, rfl, fun _ => .non⟩
  | e :: l, _, h => by
    cases h with
    | @cons _ q _ kvs a b =>
      obtain ⟨x, d⟩ := q
      obtain ⟨⟨t, ek⟩, v, rv, tv⟩ := a
      rw [List.find?_cons, ek]
      by_cases z1 : x = z
      · subst z1
        have e1 : Value.isStrOf x (.str x t) = true := by simp [Value.isStrOf]
        rw [e1]
        have e2 : ((x, d) :: kvs).lookup x = some d := by simp [List.lookup]
        rw [e2]
        exact ⟨v, rv, tv⟩
      · have e1 : Value.isStrOf z (.str x t) = false := by simp [Value.isStrOf, z1]
        rw [e1]
        have e2 : ((x, d) :: kvs).lookup z = kvs.lookup z := by
          rw [List.lookup]
          have : (z == x) = false := by simpa using Ne.symm z1
          rw [this]
        rw [e2]
        exact find_wd b
theorem e_wget {x : Str} {b : Expr} {ib : E} {apos p : Pos} {kvs : List (Str × PyData)} (D : Wd g X.w X.mg x kvs) (hK : X.K = g.K) (hb : PE X b (rE g W (evE cal ib))) (hg : Gl X x := by rfl) (hd : (x == ("__debug__" : Str)) = false := by decide)
    (m : M1 X (.Name x p) "get" apos b pos := by exact ⟨rfl, rfl, rfl, rfl⟩) : PE X (.Call (.Attribute (.Name x p) "get" apos) [b] [] pos) (rE g W (evE cal (.wget kvs ib))) := by
  refine ⟨fun pins s σ H Q I h => ?_⟩
  obtain ⟨a, es, n, h1, h2, h3, h4, h5⟩ := D.ex
  rw [← hK] at h2
  refine wpAny_Call_method m.base m.few m.line PySem.F.plainAttrs_dict PySem.F.slot_dict_get PySem.F.type_dict_get (ld_glob I hg h1 ?_ hd)
  have hm := PySem.W.mapOf_K (prog := X.prog) (w := X.w) I.kIn h2 h3
  refine ⟨hm.typeIs, fun c e => ?_, ?_⟩
  · cases e
    exact ⟨_, I.kIn _ _ h2, rfl⟩
  rw [m.trees]
  obtain ⟨α, S, h⟩ := h
  have h6 : rE g W (evE cal ib) σ H (fun y H1 => ∃ z v, y = .str z ∧ RelV v ((findBy Value.isStrOf es z).getD .none) ∧ Q v H1) := by
    refine ⟨α, S, (rAt.bind (m := evE cal ib) (f := fun y _ => M.opt (wgetD kvs y)) h).imp fun y S1 α1 H1 e1 a1 q v tv => ?_⟩
    obtain ⟨z, hz, k⟩ := rAt.opt (o := fun _ => wgetD kvs y) q
    have hz : wgetD kvs y = some z := hz
    unfold wgetD at hz
    split at hz
    · rename_i z0 _
      cases hz
      cases tv
      obtain ⟨v, r1, r2⟩ := find_wd (z := z0) h5
      refine ⟨z0, v, rfl, ?_, k α1 H1 (Ext.refl _ _) a1 v (r2 H1)⟩
      unfold findBy
      rw [← Array.find?_toList]
      exact r1
    · cases hz
  refine Calls.callWith_builtin rfl (Calls.evalArgs_plain (Calls.spliced_cons (thn (hb.run pins s σ H _ I h6) fun iv s2 ⟨y, H2, I2, ry, z, v, ey, rv, q2⟩ => Calls.spliced_nil ?_)))
  subst ey
  obtain ⟨t, rfl⟩ := ry
  have hm2 := PySem.W.mapOf_K (prog := X.prog) (w := X.w) I2.kIn h2 h3
  exact call_meetsIn PySem.F.slot_dict_get hm2.typeIs PySem.F.entry_dict_get (PySem.F.args_dict_get_2 _ _) (meets_dict_get (strKind X.prog X.w) a (strKind_is X.prog X.w z t) h4) ⟨_, hm2, v, H2, I2.tok _, rv, q2⟩
/-! ### len(set(..)) of at most one text -/
theorem strs_tp {K : PySem.W.Frag} {H : Hp} : ∀ {ds : List PyData} {xs : List V} {zs : List Str}, TpA K H ds xs → strsOf ds = some zs → xs = zs.map V.str
  | [], _, _, h, e => by cases h; cases e; rfl
  | d :: ds, _, _, h, e => by
    cases h with
    | cons a b =>
      cases d <;> first | (simp [strsOf] at e; done) | skip
      unfold strsOf at e
      obtain ⟨r, e1, e⟩ := Option.map_eq_some_iff.mp e
      subst e
      cases a
      rw [strs_tp b e1]
      rfl
theorem unlike_one : ∀ {zs : List Str}, zs.length ≤ 1 → (unlike zs).length = zs.length
  | [], _ => rfl
  | [z], _ => by simp [unlike]
  | _ :: _ :: _, h => by simp at h
theorem e_lenset {a : Expr} {ia : E} {p p2 q : Pos} (hc : X.calm = true) (hK : X.K = g.K) (hm : X.mg "len" = none) (hm2 : X.mg "set" = none) (ha : PE X a (rE g W (evE cal ia))) (hg : Gl X "len" := by rfl) (hg2 : Gl X "set" := by rfl)
    (na : starEach [a] X.env = (false, eval a X.env) :: starEach [] X.env := by rfl) : PE X (.Call (.Name "len" p) [.Call (.Name "set" p2) [a] [] q] [] pos) (rE g W (evE cal (.lenset ia))) := by
  have h := pe_lenSet (pos := pos) (p := p) (p2 := p2) (q := q) hc hg hm hg2 hm2 ha na
  rw [hK] at h
  refine pe_imp h fun σ H Q h => ?_
  obtain ⟨α, S, h⟩ := h
  refine ⟨α, S, (rAt.bind (m := evE cal ia) (f := fun x _ => M.opt (lensetD x)) h).imp fun x S1 α1 H1 e1 a1 h1 v tv => ?_⟩
  obtain ⟨z, hz, k⟩ := rAt.opt (o := fun _ => lensetD x) h1
  have hz : lensetD x = some z := hz
  unfold lensetD at hz
  split at hz
  · obtain ⟨zs, e, hz⟩ := Option.bind_eq_some_iff.mp hz
    by_cases hl : zs.length ≤ 1
    · rw [if_pos hl] at hz
      cases hz
      cases tv with
      | tup hq hx =>
        have e2 := strs_tp hx e
        subst e2
        refine ⟨_, zs, rfl, .inr hq.sq, hl, ?_⟩
        have ul := unlike_one hl
        rw [← ul]
        exact k α1 H1 (Ext.refl _ _) a1 _ (.int _)
    · rw [if_neg hl] at hz
      cases hz
  · cases hz
end
end Ir
set_option Elab.async false
set_option maxRecDepth 100000
set_option maxHeartbeats 4000001
/-! Methods of texts; a list made longer. -/
namespace Ir
open PySem L2 PySem.Spec PyProof.Rows
section
variable {X : Cx} {g : Gc} {W : WX} {cal : Nat → List D → M D} {pos : Pos}
theorem plain_back : ∀ ds : List PyData, plainOf (ds.map D.p) = some ds
  | [] => rfl
  | d :: ds => by
    show (plainOf (ds.map D.p)).map (d :: ·) = some (d :: ds)
    rw [plain_back ds]
    rfl
theorem txt_of {o : TxO} {ia : E} {σ : L2.St} {H : Hp} {Q : VK} (h : rE g W (evE cal (.txt o ia)) σ H Q) : rE g W (evE cal ia) σ H (fun x H1 => (∃ a, x = .str a) ∧ ∃ a, x = .str a ∧ a.length ≤ 5000000 ∧ Q (.str (txO o a)) H1) := by
  obtain ⟨α, S, h⟩ := h
  refine ⟨α, S, (rAt.bind (m := evE cal ia) (f := fun x _ => M.opt (txtD o x)) h).imp fun x S1 α1 H1 e1 a1 h1 v tv => ?_⟩
  obtain ⟨z, hz, k⟩ := rAt.opt (o := fun _ => txtD o x) h1
  have hz : txtD o x = some z := hz
  unfold txtD at hz
  split at hz
  · split at hz
    · rename_i hl
      cases hz
      cases tv
      exact ⟨⟨_, rfl⟩, _, rfl, hl, k α1 H1 (Ext.refl _ _) a1 _ (.str _)⟩
    · cases hz
  · cases hz
theorem e_lower {a : Expr} {ia : E} {apos : Pos} (ha : PE X a (rE g W (evE cal ia))) (hbase : attributeBase a "lower" X.env (eval a X.env) = eval a X.env := by rfl) (hline : (apos.endLine == pos.line) = true := by rfl) :
    PE X (.Call (.Attribute a "lower" apos) [] [] pos) (rE g W (evE cal (.txt .lower ia))) := pe_imp (pe_lower ha hbase hline) fun σ H Q h => by
  obtain ⟨α, S, q⟩ := txt_of h
  exact ⟨α, S, q.imp fun x S1 α1 H1 _ _ k v tv => by
    obtain ⟨h1, z, e, hl, q⟩ := k v tv
    exact ⟨h1, z, e, rfl, by omega, q⟩⟩
theorem e_upper {a : Expr} {ia : E} {apos : Pos} (ha : PE X a (rE g W (evE cal ia))) (hbase : attributeBase a "upper" X.env (eval a X.env) = eval a X.env := by rfl) (hline : (apos.endLine == pos.line) = true := by rfl) :
    PE X (.Call (.Attribute a "upper" apos) [] [] pos) (rE g W (evE cal (.txt .upper ia))) := pe_imp (pe_upper ha hbase hline) fun σ H Q h => by
  obtain ⟨α, S, q⟩ := txt_of h
  exact ⟨α, S, q.imp fun x S1 α1 H1 _ _ k v tv => by
    obtain ⟨h1, z, e, hl, q⟩ := k v tv
    exact ⟨h1, z, e, rfl, by omega, q⟩⟩
theorem e_strip {a : Expr} {ia : E} {apos : Pos} (ha : PE X a (rE g W (evE cal ia))) (hbase : attributeBase a "strip" X.env (eval a X.env) = eval a X.env := by rfl) (hline : (apos.endLine == pos.line) = true := by rfl) :
    PE X (.Call (.Attribute a "strip" apos) [] [] pos) (rE g W (evE cal (.txt .strip ia))) := pe_imp (pe_strip ha hbase hline) fun σ H Q h => by
  obtain ⟨α, S, q⟩ := txt_of h
  exact ⟨α, S, q.imp fun x S1 α1 H1 _ _ k v tv => by
    obtain ⟨h1, z, e, hl, q⟩ := k v tv
    exact ⟨h1, z, e, rfl, by rw [sizeLine_eq]; omega, q⟩⟩
theorem CallR.or {f : Value} {r r' : List V → Hp → VK → Prop} (h : CallR X f r) (h' : CallR X f r') : CallR X f (fun xs H Q => r xs H Q ∨ r' xs H Q) := by
  intro pins s σ H xs us Q I rv q
  rcases q with q | q
  · exact h pins s σ H xs us Q I rv q
  · exact h' pins s σ H xs us Q I rv q
theorem e_strOf {a : Expr} {ia : E} {p : Pos} (hm : X.mg "str" = none) (ha : PE X a (rE g W (evE cal ia))) (hg : Gl X "str" := by rfl) (hs : starEach [a] X.env = (false, eval a X.env) :: starEach [] X.env := by rfl) :
    PE X (.Call (.Name "str" p) [a] [] pos) (rE g W (evE cal (.strOf ia))) := by
  refine pe_imp (pe_callTy (CallR.or call_str_int SkE.call_str_str) hg hm (by decide +kernel) (pa_cons ha pa_nil hs) (he := hs)) fun σ H Q h => ?_
  obtain ⟨α, S, h⟩ := h
  refine ⟨α, S, (rAt.bind (m := evE cal ia) (f := fun x _ => M.opt (strOfD x)) h).imp fun x S1 α1 H1 e1 a1 h1 v tv => ?_⟩
  obtain ⟨z, hz, k⟩ := rAt.opt (o := fun _ => strOfD x) h1
  have hz : strOfD x = some z := hz
  unfold strOfD at hz
  split at hz
  · split at hz
    · rename_i hl
      cases hz
      cases tv
      exact .inl ⟨_, rfl, hl, k α1 H1 (Ext.refl _ _) a1 _ (.str _)⟩
    · cases hz
  · cases hz
    cases tv
    exact .inr ⟨_, rfl, k α1 H1 (Ext.refl _ _) a1 _ (.str _)⟩
  · cases hz
theorem e_join {a b : Expr} {ia ib : E} {apos : Pos} (hK : X.K = g.K) (ha : PE X a (rE g W (evE cal ia))) (hb : PE X b (rE g W (evE cal ib))) (hs : starEach [b] X.env = [(false, eval b X.env)] := by rfl) (hbase : attributeBase a "join" X.env (eval a X.env) = eval a X.env := by rfl) (hline : (apos.endLine == pos.line) = true := by rfl) :
    PE X (.Call (.Attribute a "join" apos) [b] [] pos) (rE g W (evE cal (.join ia ib))) := by
  have h := pe_join (pos := pos) (apos := apos) ha hb hs hbase hline
  rw [hK] at h
  refine pe_imp h fun σ H Q h => ?_
  obtain ⟨α, S, h⟩ := h
  refine ⟨α, S, (rAt.bind (m := evE cal ia) (f := fun x ρ => M.bind (M.opt (strD x)) fun _ => M.bind (evE cal ib ρ) fun y => fun S => M.opt (joinD S x y) S) h).imp fun x S1 α1 H1 e1 a1 h1 v tv => ?_⟩
  obtain ⟨w, hw, k⟩ := (rAt.bind (m := fun _ => M.opt (strD x)) (f := fun _ ρ => M.bind (evE cal ib ρ) fun y => fun S => M.opt (joinD S x y) S) h1).opt
  have hw : strD x = some w := hw
  unfold strD at hw
  split at hw
  · cases hw
    cases tv
    rename_i z
    refine ⟨⟨_, rfl⟩, α1, S1, (rAt.bind (m := evE cal ib) (f := fun y _ => fun S => M.opt (joinD S (.p (.str z)) y) S) (k α1 H1 (Ext.refl _ _) a1)).imp fun y S2 α2 H2 e2 a2 h2 u tu => ?_⟩
    obtain ⟨r, hr, k2⟩ := h2.opt
    unfold joinD at hr
    obtain ⟨ds, q1, hr⟩ := Option.bind_eq_some_iff.mp hr
    obtain ⟨ps, q2, hr⟩ := Option.bind_eq_some_iff.mp hr
    obtain ⟨zs, q3, hr⟩ := Option.bind_eq_some_iff.mp hr
    split at hr
    · rename_i hl
      cases hr
      have fin : ∀ {b : Addr} {xs : List V}, u = .ref b → (SqL g.K H2 b xs ∨ SqT g.K H2 b xs) → TpA g.K H2 ps xs → ∃ a p, ∃ ys : List Str, V.str z = .str a ∧ [u] = [.ref p] ∧ (SqL g.K H2 p (ys.map V.str) ∨ SqT g.K H2 p (ys.map V.str)) ∧ (ys.map (·.length)).sum + ys.length * a.length ≤ 16777216 ∧ Q (.str (Txt.join a ys)) H2 := fun {b xs} e hq tx => by
        have ex := strs_tp tx q3
        subst ex
        exact ⟨z, b, zs, rfl, by rw [e], hq, hl, k2 α2 H2 (Ext.refl _ _) a2 _ (.str _)⟩
      unfold ofD at q1
      split at q1
      · obtain ⟨b, xs, e, h5, h6⟩ := lst_at a2 tu q1
        exact fin e (.inl (SqL.of h5)) (TlA.plain h6 q2)
      · cases q1
        rw [plain_back] at q2
        cases q2
        cases tu with
        | tup hq hx => exact fin rfl (.inr hq.sq) hx
      · cases q1
        rw [plain_back] at q2
        cases q2
        cases tu with
        | lst hq hx => exact fin rfl (.inl hq.sq) hx
      · cases q1
    · cases hr
  · cases hw
theorem e_extend {a b : Expr} {ia ib : E} {apos : Pos} (hK : X.K = g.K) (ha : PE X a (rE g W (evE cal ia))) (hb : PE X b (rE g W (evE cal ib))) (hbase : attributeBase a "extend" X.env (eval a X.env) = eval a X.env := by rfl)
    (hfew : ((backTo pos (starEach [b] X.env)).all (fun x => !x.1) && (backToKw pos (keywordEach [] X.env)).all (fun x => x.1.isSome)
      && decide (([b] : List Expr).length + ([] : List Keyword).length + (if ([] : List Keyword).isEmpty then 0 else 1) < 30)) = true := by rfl)
    (hline : (apos.endLine == pos.line) = true := by rfl) (hs : starEach [b] X.env = (false, eval b X.env) :: starEach [] X.env := by rfl) :
    PE X (.Call (.Attribute a "extend" apos) [b] [] pos) (rE g W (evE cal (.extend ia ib))) := by
  have h := pe_bm PySem.F.plainAttrs_list PySem.F.slot_list_extend PySem.F.type_list_extend mt_extend ha (pa_cons hb pa_nil hs) hbase hfew hline hs
  rw [hK] at h
  refine pe_imp h fun σ H Q h => ?_
  obtain ⟨α, S, h⟩ := h
  refine ⟨α, S, (rAt.bind (m := evE cal ia) (f := fun x ρ => M.bind (fun S => M.opt (lstAt S x) S) fun _ => M.bind (evE cal ib ρ) fun y => extD x y) h).imp fun x S1 α1 H1 e1 a1 h1 v tv => ?_⟩
  obtain ⟨ds, hds, k⟩ := (rAt.bind (m := fun _ => fun S => M.opt (lstAt S x) S) (f := fun _ ρ => M.bind (evE cal ib ρ) fun y => extD x y) h1).opt
  obtain ⟨b0, xs0, rfl, h5, h6⟩ := lst_at a1 tv hds
  refine ⟨.inl ⟨rfl, _, SqL.of h5⟩, α1, S1, (rAt.bind (m := evE cal ib) (f := fun y _ => extD x y) (k α1 H1 (Ext.refl _ _) a1)).imp fun y S2 α2 H2 e2 a2 h2 u tu => ?_⟩
  obtain ⟨ρ, a, r, w⟩ := h2
  have tv := tv.ext e2 a1
  cases x with
  | p _ => exact (show False from w).elim
  | fn _ => exact (show False from w).elim
  | ref j =>
    unfold extD at w
    cases ej : S2[j]? with
    | none => simp only [ej] at w; exact w.elim
    | some o =>
      cases o with
      | dic _ => simp only [ej] at w; exact w.elim
      | lst ds =>
        cases ey : lstAt S2 y with
        | none => simp only [ej, ey] at w; exact w.elim
        | some es =>
          simp only [ej, ey] at w
          by_cases hb : es.all (rb j) = true ∧ ds.length + es.length ≤ 100000
          · rw [if_pos hb] at w
            obtain ⟨b1, xs, h7, h8, h9⟩ := At.lst a2 ej
            obtain ⟨b3, zs, eu, h10, h11⟩ := lst_at a2 tu ey
            obtain ⟨b2, h7', e⟩ := tv
            cases e
            rw [h7] at h7'
            cases h7'
            subst eu
            refine ⟨b0, b3, xs, zs, rfl, rfl, h8, h10, by rw [← Paired.length h9, ← Paired.length h11, sizeLine_eq]; omega, ?_⟩
            have hw := a2.wf j _ ej
            have hb2 : rbO j (.lst (ds ++ es)) = true := by
              have hw : ds.all (rb j) = true := hw
              show (ds ++ es).all (rb j) = true
              rw [List.all_append, Bool.and_eq_true]
              exact ⟨hw, hb.1⟩
            obtain ⟨e6, a6⟩ := At.upd a2 h7 hb2 (u := .lst (xs ++ zs)) fun H' kt hu => ⟨_, hu, Paired.app (Paired.mapP h9 fun _ _ q => q.keep kt) (Paired.mapP h11 fun _ _ q => q.keep kt)⟩
            exact w α2 _ e6 a6 .non .non
          · rw [if_neg hb] at w
            exact w.elim
theorem paired_take {A B : Type} {F : A → B → Prop} : ∀ {l : List A} {m : List B} (n : Nat), Paired F l m → Paired F (l.take n) (m.take n)
  | _, _, 0, _ => by simp; exact .nil
  | _, _, _ + 1, .nil => .nil
  | _, _, n + 1, .cons a b => .cons a (paired_take n b)
theorem paired_drop {A B : Type} {F : A → B → Prop} : ∀ {l : List A} {m : List B} (n : Nat), Paired F l m → Paired F (l.drop n) (m.drop n)
  | _, _, 0, h => h
  | _, _, _ + 1, .nil => .nil
  | _, _, n + 1, .cons _ b => paired_drop n b
theorem l_cut {a : Expr} {ia : E} {lo hi : Option Expr} {l h : Bd} {p2 : Pos} (hK : X.K = g.K) (ha : PE X a (rE g W (evE cal ia))) (hl : PO X lo (rB g W (evB cal l))) (hh : PO X hi (rB g W (evB cal h))) : PE X (.Subscript a (.Slice lo hi none p2) pos) (rLn g W (evL cal (.cut ia l h))) := by
  have s1 := sl_list (X := X)
  rw [hK] at s1
  refine pe_imp (pe_slice s1 ha hl hh) fun σ H Q q => ?_
  obtain ⟨α, S, ρ, a0, r, w⟩ := q
  have w : wp (M.bind (evE cal ia ρ) (fun x => M.bind (evB cal l ρ) fun u => M.bind (evB cal h ρ) fun v => fun S => M.opt (cutLD S x u v) S) S) _ _ := w
  refine ⟨α, S, ρ, a0, r, wp_mono (wp_bind w) (fun x S1 h1 α1 H1 e1 a1 v tv => ⟨α1, S1, ρ, a1, r.ext e1 a0, wp_mono (wp_bind h1) (fun u S2 h2 α2 H2 e2 a2 => ⟨α2, S2, ρ, a2, (r.ext e1 a0).ext e2 a1, wp_mono (wp_bind h2) (fun t S3 h3 α3 H3 e3 a3 => ?_) fun x S4 z cls dx α4 H4 e4 a4 t => z cls dx α4 H4 ((e1.trans e2).trans e4) a4 t⟩) fun x S3 z cls dx α3 H3 e3 a3 t => z cls dx α3 H3 (e1.trans e3) a3 t⟩) fun _ _ z => z⟩
  cases e : cutLD S3 x u t with
  | none => simp only [M.opt, e] at h3; exact h3.elim
  | some ds =>
    simp only [M.opt, e] at h3
    obtain ⟨d1, q1, e5⟩ := Option.map_eq_some_iff.mp e
    subst e5
    obtain ⟨b1, xs, rfl, h5, h6⟩ := lst_at a3 ((tv.ext e2 a1).ext e3 a2) q1
    refine ⟨b1, xs, rfl, SqL.of h5, fun p hp => ?_⟩
    have e123 := (e1.trans e2).trans e3
    obtain ⟨e4, a4⟩ := At.fresh a3 hp (u := .lst (cutV xs u t))
    refine h3 α3 _ (e123.trans e4) a4 p _ (e123.none a3 hp) (a3.notin hp) upd_same ?_
    have hx := TlA.ext e4 a3 h6
    unfold cutD cutV
    rw [Paired.length h6]
    exact paired_take _ (paired_drop _ hx)
end
end Ir
set_option Elab.async false
set_option maxRecDepth 100000
set_option maxHeartbeats 4000001
/-! Short words: one rule a sign. -/
namespace Ir
open PySem L2 PySem.Spec PyProof.Rows
section
variable {X : Cx} {g : Gc} {W : WX} {cal : Nat → List D → M D} {pos : Pos} {a b c : Expr} {ia ib ic : E} {CX : CXT} {k : Nat}
theorem e_add (G : Gd X g W CX cal k) (ha : PE X a (rE g W (evE cal ia))) (hb : PE X b (rE g W (evE cal ib))) : PE X (.BinOp a .Add b pos) (rE g W (evE cal (.bin .add ia ib))) := by
  have h := (op_add (X := X).or op_add_str).or op_catF
  rw [G.K] at h
  exact e_bin h o_add ha hb
theorem e_sub (G : Gd X g W CX cal k) (ha : PE X a (rE g W (evE cal ia))) (hb : PE X b (rE g W (evE cal ib))) : PE X (.BinOp a .Sub b pos) (rE g W (evE cal (.bin .sub ia ib))) := e_bin op_sub o_sub ha hb
theorem e_mul (G : Gd X g W CX cal k) (ha : PE X a (rE g W (evE cal ia))) (hb : PE X b (rE g W (evE cal ib))) : PE X (.BinOp a .Mult b pos) (rE g W (evE cal (.bin .mul ia ib))) := e_bin op_mul o_mul ha hb
theorem e_fdiv (G : Gd X g W CX cal k) (ha : PE X a (rE g W (evE cal ia))) (hb : PE X b (rE g W (evE cal ib))) : PE X (.BinOp a .FloorDiv b pos) (rE g W (evE cal (.bin .fdiv ia ib))) := e_bin op_fdivW o_fdiv ha hb
theorem e_mod (G : Gd X g W CX cal k) (ha : PE X a (rE g W (evE cal ia))) (hb : PE X b (rE g W (evE cal ib))) : PE X (.BinOp a .Mod b pos) (rE g W (evE cal (.bin .mod ia ib))) := e_bin op_mod o_mod ha hb
theorem e_pow (G : Gd X g W CX cal k) (ha : PE X a (rE g W (evE cal ia))) (hb : PE X b (rE g W (evE cal ib))) : PE X (.BinOp a .Pow b pos) (rE g W (evE cal (.bin .pow ia ib))) := e_bin op_pow o_pow ha hb
/-- what an operator of comparison is here -/
structure Cmp (X : Cx) (g : Gc) (op : CmpOp) (o : COp) : Prop where
  ex : ∃ r, OpR X (compareOp op) r ∧ OpC g o r
theorem c_lt (_ : Gd X g W CX cal k) : Cmp X g .Lt .lt := ⟨_, op_lt, o_lt⟩
theorem c_le (_ : Gd X g W CX cal k) : Cmp X g .LtE .le := ⟨_, op_le, o_le⟩
theorem c_gt (_ : Gd X g W CX cal k) : Cmp X g .Gt .gt := ⟨_, op_gt, o_gt⟩
theorem c_ge (_ : Gd X g W CX cal k) : Cmp X g .GtE .ge := ⟨_, op_ge, o_ge⟩
theorem c_eq (G : Gd X g W CX cal k) : Cmp X g .Eq .eq := by
  have h := (op_eq (X := X)).or (op_eqD G.hu)
  rw [G.K] at h
  exact ⟨_, h, o_eq⟩
theorem c_ne (G : Gd X g W CX cal k) : Cmp X g .NotEq .ne := by
  have h := (op_ne (X := X)).or (op_neD G.hu)
  rw [G.K] at h
  exact ⟨_, h, o_ne⟩
theorem op_in_dK (hu : X.A.units + 1 < cLine) : OpR X (compareOp .In) (fun x y H Q => ∃ b ws k, y = .ref b ∧ x = kV k ∧ H b = some (.dK ws) ∧ Q (.bl (if false then !(valV ws k).isSome else (valV ws k).isSome)) H) := by
  intro pins s σ H x y v u Q I rx ry h
  obtain ⟨b, ws, k, rfl, rfl, hb, q⟩ := h
  cases ry
  exact d_in hu I (.k hb) rx fun s' I' => ⟨.bl _, H, I', rfl, by simpa using q⟩
theorem op_notin_dK (hu : X.A.units + 1 < cLine) : OpR X (compareOp .NotIn) (fun x y H Q => ∃ b ws k, y = .ref b ∧ x = kV k ∧ H b = some (.dK ws) ∧ Q (.bl (if true then !(valV ws k).isSome else (valV ws k).isSome)) H) := by
  intro pins s σ H x y v u Q I rx ry h
  obtain ⟨b, ws, k, rfl, rfl, hb, q⟩ := h
  cases ry
  exact d_notIn hu I (.k hb) rx fun s' I' => ⟨.bl _, H, I', rfl, by simpa using q⟩
theorem c_in (G : Gd X g W CX cal k) : Cmp X g .In .in_ := by
  have h := (((op_in_str (X := X)).or op_in_seq).or (op_in_dK (by have := G.hu; omega))).or (op_inD (by have := G.room.un; omega))
  rw [G.K] at h
  exact ⟨_, h, o_in⟩
theorem c_notin (G : Gd X g W CX cal k) : Cmp X g .NotIn .notin := by
  have h := (((op_notin_str (X := X)).or op_notIn_seq).or (op_notin_dK (by have := G.hu; omega))).or (op_notInD (by have := G.room.un; omega))
  rw [G.K] at h
  exact ⟨_, h, o_notin⟩
theorem c_is (_ : Gd X g W CX cal k) : Cmp X g .Is .is_ := ⟨_, (op_isBl (X := X)).or op_isN, o_is⟩
theorem c_isnot (_ : Gd X g W CX cal k) : Cmp X g .IsNot .isnot := ⟨_, (op_isnot_bl (X := X)).or op_notN, o_isnot⟩
theorem e_c {op : CmpOp} {o : COp} (C : Cmp X g op o) (ha : PE X a (rE g W (evE cal ia))) (hb : PE X b (rE g W (evE cal ib))) (hm : behindInMarks op b = false := by first | exact nomark _ (by decide) (by decide) | rfl) :
    PE X (.Compare a [op] [b] pos) (rE g W (evE cal (.cmp o ia ib))) := let ⟨_, h1, h2⟩ := C.ex; e_cmp h1 h2 ha hb hm
theorem t_c {op : CmpOp} {o : COp} (C : Cmp X g op o) (ha : PE X a (rE g W (evE cal ia))) (hb : PE X b (rE g W (evE cal ib))) (hm : behindInMarks op b = false := by first | exact nomark _ (by decide) (by decide) | rfl) :
    PT X (.Compare a [op] [b] pos) (rT g W (evE cal (.cmp o ia ib))) := let ⟨_, h1, h2⟩ := C.ex; t_cmp h1 h2 ha hb hm
theorem e_ch {op op' : CmpOp} {o o' : COp} (C : Cmp X g op o) (C' : Cmp X g op' o') (ha : PE X a (rE g W (evE cal ia))) (hb : PE X b (rE g W (evE cal ib))) (hc : PE X c (rE g W (evE cal ic))) (hm : lastMarks [op, op'] [b, c] = false := by with_unfolding_all rfl) :
    PE X (.Compare a [op, op'] [b, c] pos) (rE g W (evE cal (.chain o o' ia ib ic))) := let ⟨_, h1, h2⟩ := C.ex; let ⟨_, h3, h4⟩ := C'.ex; e_chain h1 h3 h2 h4 ha hb hc hm
theorem t_ch {op op' : CmpOp} {o o' : COp} (C : Cmp X g op o) (C' : Cmp X g op' o') (ha : PE X a (rE g W (evE cal ia))) (hb : PE X b (rE g W (evE cal ib))) (hc : PE X c (rE g W (evE cal ic))) (hm : lastMarks [op, op'] [b, c] = false := by with_unfolding_all rfl) :
    PT X (.Compare a [op, op'] [b, c] pos) (rT g W (evE cal (.chain o o' ia ib ic))) := let ⟨_, h1, h2⟩ := C.ex; let ⟨_, h3, h4⟩ := C'.ex; t_chain h1 h3 h2 h4 ha hb hc hm
end
end Ir
set_option Elab.async false
set_option linter.all false
set_option maxRecDepth 100000
set_option maxHeartbeats 4000001
/-! More of the small language: stores into dicts, dict displays, get with a default, operations by values. -/
namespace Ir
open PySem L2 PySem.Spec PyProof.Rows
section
variable {X : Cx} {g : Gc} {W : WX} {cal : Nat → List D → M D} {pos : Pos}
/-! ### o[i] = v of lists and dicts -/
theorem PSet.or {X : Cx} {t t' : TSet} (h : PSet X t) (h' : PSet X t') : PSet X (fun o i v H Q => t o i v H Q ∨ t' o i v H Q) := by
  intro pins s σ H o i v ov iv u Q I r1 r2 r3 q
  rcases q with q | q
  · exact h pins s σ H o i v ov iv u Q I r1 r2 r3 q
  · exact h' pins s σ H o i v ov iv u Q I r1 r2 r3 q
theorem rb_put {n : Nat} {k : Key} {d : D} (hd : rb n d = true) : ∀ {kvs : List (Key × D)}, (kvs.all fun kv => rb n kv.2) = true → ((putD kvs k d).all fun kv => rb n kv.2) = true := by
  intro kvs h
  rw [List.all_eq_true] at h ⊢
  unfold putD
  intro x hx
  split at hx
  · obtain ⟨y, hy, e⟩ := List.mem_map.mp hx
    split at e
    · subst e; exact hd
    · subst e; exact h _ hy
  · rcases List.mem_append.mp hx with z | z
    · exact h _ z
    · rw [List.mem_singleton] at z; subst z; exact hd
theorem put_dic {α : List Addr} {H : Hp} {S : Sto} {j : Nat} {kvs : List (Key × D)} {key : Key} {d : D} {v y : V} {u : V} (a3 : g.At α H S) (ej : S[j]? = some (.dic kvs)) (tu : g.Tl α H (.ref j) u) (tv : g.Tl α H d v) (ey : y = kV key) (hb : rb j d = true ∧ kvs.length ≤ 1000)
    {Q : Hp → Prop} (h3 : ∀ H', Ext α α H H' → g.At α H' (S.set j (.dic (putD kvs key d))) → Q H') : rSetD u y v H Q := by
  subst ey
  obtain ⟨b, ws, h4, h5, h6⟩ := At.dic a3 ej
  obtain ⟨b', h4', rfl⟩ := tu
  rw [h4] at h4'
  cases h4'
  refine ⟨b, _, rfl, DPut.k h5 (by rw [← Paired.length h6, sizeLine_eq]; omega), ?_⟩
  have hw := a3.wf j _ ej
  have hb2 : rbO j (.dic (putD kvs key d)) = true := rb_put hb.1 hw
  obtain ⟨e6, a6⟩ := At.upd a3 h4 hb2 (u := .dK (putK ws key v)) fun H' kt hu => ⟨_, hu, dp_put (tv.keep kt) (Paired.mapP h6 fun _ _ q => ⟨q.1, q.2.keep kt⟩)⟩
  exact h3 _ e6 a6
theorem s_setI {o i v : Expr} {io ii iv : E} {tpos : Pos} {CX : CXT} {kk : Nat} (G : Gd X g W CX cal kk) (hv : PE X v (rE g W (evE cal iv))) (ho : PE X o (rE g W (evE cal io))) (hi : PE X i (rE g W (evE cal ii)))
    (ha : ∀ v, assign (.Subscript o i tpos) X.env v = (do
      let ov ← holding [v] (eval o X.env)
      let iv ← holding [v, ov] (eval i X.env)
      standAt tpos
      holding [v, ov, iv] (setItem ov iv v)
      release [v, ov, iv] []) := by intro _; rfl)
    (hs : swapsWithSole [.Subscript o i tpos] v pos.line X.env = pure false := by rfl) (hw : swappedStores [.Subscript o i tpos] v X.env = pure none := by rfl)
    (h1 : (assignEach [.Subscript o i tpos] X.env).map (·.2) = [assign (.Subscript o i tpos) X.env] := by rfl) : PS X (.Assign [.Subscript o i tpos] v pos) (rS g W (exS cal (.setI io ii iv))) :=
  ps_imp (ps_asg hv (pg_sub ho hi (PSet.or set_list (set_dict (by have := G.hu; omega))) ha) hs hw h1) fun D σ H h => by
    obtain ⟨α, S, h⟩ := h
    refine ⟨α, S, (sAt.bind (m := evE cal iv) (f := fun d ρ => M.bind (evE cal io ρ) fun x => M.bind (evE cal ii ρ) fun y => M.bind (setD x y d) fun _ => M.pure (.next, ρ)) h).imp fun d S1 α1 H1 e1 a1 h1 v tv =>
      ⟨α1, S1, (sAt.bind (m := evE cal io) (f := fun x ρ => M.bind (evE cal ii ρ) fun y => M.bind (setD x y d) fun _ => M.pure (.next, ρ)) h1).imp fun x S2 α2 H2 e2 a2 h2 u tu =>
        ⟨α2, S2, (sAt.bind (m := evE cal ii) (f := fun y ρ => M.bind (setD x y d) fun _ => M.pure (.next, ρ)) h2).imp fun y S3 α3 H3 e3 a3 h3 z tz => ?_⟩⟩⟩
    obtain ⟨ρ, a, r, h3⟩ := h3
    have tu := tu.ext e3 a2
    have tv := (tv.ext e2 a1).ext e3 a2
    unfold setD at h3
    cases x with
    | p _ => exact h3.elim
    | fn _ => exact h3.elim
    | ref j =>
      cases y with
      | ref _ => exact h3.elim
      | fn _ => exact h3.elim
      | p y =>
        cases y with
        | int k =>
          cases tz
          cases ej : S3[j]? with
          | none => simp only [M.bind, ej] at h3; exact h3.elim
          | some ob =>
            cases ob with
            | dic kvs =>
              simp only [M.bind, ej] at h3
              by_cases hb : rb j d = true ∧ kvs.length ≤ 1000
              · rw [if_pos hb] at h3
                exact .inr (put_dic a3 ej tu tv rfl hb fun H' e6 a6 => h3 α3 _ σ e6 a6 (r.ext e6 a3))
              · rw [if_neg hb] at h3
                exact h3.elim
            | lst ds =>
              simp only [M.bind, ej] at h3
              cases ei : ixN ds.length k with
              | none => simp only [ei] at h3; exact h3.elim
              | some n =>
                simp only [ei] at h3
                by_cases hb : rb j d = true
                · simp only [hb, if_true] at h3
                  obtain ⟨b, xs, h4, h5, h6⟩ := At.lst a3 ej
                  obtain ⟨b', h4', rfl⟩ := tu
                  rw [h4] at h4'
                  cases h4'
                  refine .inl ⟨b, xs, k, n, rfl, rfl, h5, by rw [← Paired.length h6]; exact ei, ?_⟩
                  have hw := a3.wf j _ ej
                  have hb2 : rbO j (.lst (ds.set n d)) = true := by
                    unfold rbO at hw ⊢
                    rw [List.all_eq_true] at hw ⊢
                    intro q hq
                    rcases List.mem_or_eq_of_mem_set hq with z | z
                    · exact hw q z
                    · rw [z]; exact hb
                  obtain ⟨e6, a6⟩ := At.upd a3 h4 hb2 (u := .lst (xs.set n v)) fun H' kt hu => ⟨_, hu, Paired.setAt (tv.keep kt) n (Paired.mapP h6 fun _ _ q => q.keep kt)⟩
                  exact h3 α3 _ σ e6 a6 (r.ext e6 a3)
                · simp only [hb] at h3
                  exact h3.elim
        | none => exact h3.elim
        | bool _ => exact h3.elim
        | str k =>
          cases tz
          cases ej : S3[j]? with
          | none => simp only [M.bind, ej] at h3; exact h3.elim
          | some ob =>
            cases ob with
            | lst _ => simp only [M.bind, ej] at h3; exact h3.elim
            | dic kvs =>
              simp only [M.bind, ej] at h3
              by_cases hb : rb j d = true ∧ kvs.length ≤ 1000
              · rw [if_pos hb] at h3
                exact .inr (put_dic a3 ej tu tv rfl hb fun H' e6 a6 => h3 α3 _ σ e6 a6 (r.ext e6 a3))
              · rw [if_neg hb] at h3
                exact h3.elim
        | list _ => exact h3.elim
        | tuple _ => exact h3.elim
        | dict _ => exact h3.elim

/-! ### dict displays -/
/-- from an equal reading in a heap that has one object more, which the store does not know -/
theorem shiftA {ms : Sl → M (List D)} {α : List Addr} {S : Sto} {σ : L2.St} {H : Hp} {p : Addr} {u : HO} {k : List D → Sto → List Addr → Hp → Prop} (hp : H p = none) (h : rAt g W α S ms σ H k) :
    rAt g W α S ms σ (L2.upd H p u) (fun ds S' α' H' => p ∉ α' ∧ H' p = some u ∧ Ext α α' H H' ∧ k ds S' α' H') := by
  obtain ⟨ρ, a, r, w⟩ := h
  obtain ⟨e1, a1⟩ := At.fresh a hp (u := u)
  have np := a.notin hp
  refine ⟨ρ, a1, r.ext e1 a, wp_mono w (fun ds S' q α' H' e2 a2 => ⟨Ext.notin e2 upd_same np, e2.keep p u upd_same np, e1.trans e2, q α' H' (e1.trans e2) a2⟩) fun x S' z cls dx α' H' e2 a2 t => z cls dx α' H' (e1.trans e2) a2 t⟩
/-- the pairs of a display whose keys are written texts -/
structure PDl (X : Cx) (g : Gc) (W : WX) (cal : Nat → List D → M D) (pos : Pos) (keys : List (Option Expr)) (vals : List Expr) (ks : List Str) (is : Es) : Prop where
  ex : ∃ trs, PPs X pos keys vals trs ∧ ∀ σ H (Q : List (V × V) → Hp → Prop), rA g W (evEs cal is) σ H (fun vs H' => Q ((ks.map V.str).zip vs) H') → tPairs trs σ H Q
theorem d_nil : PDl X g W cal pos [] [] [] .nil := ⟨[], pps_nil, fun σ H Q h => by
  obtain ⟨α, S, h⟩ := h
  exact h.here α H (Ext.refl _ _) h.at_ [] .nil⟩
theorem d_cons {z : Str} {j : Nat} {kp : Pos} {keys : List (Option Expr)} {v : Expr} {vs : List Expr} {ks : List Str} {i : E} {is : Es} (hv : PE X v (rE g W (evE cal i))) (hr : PDl X g W cal pos keys vs ks is) :
    PDl X g W cal pos (some (.Constant (.str z) j kp) :: keys) (v :: vs) (z :: ks) (.cons i is) := by
  obtain ⟨trs, h1, h2⟩ := hr.ex
  refine ⟨_, pps_cons pe_str hv h1, fun σ H Q h => ?_⟩
  obtain ⟨α, S, h⟩ := h
  refine ⟨α, S, (rAt.bind (m := evE cal i) (f := fun d ρ => M.bind (evEs cal is ρ) fun ds => M.pure (d :: ds)) h).imp fun d S1 α1 H1 e1 a1 h1 v tv => h2 _ _ _ ⟨α1, S1, (rAt.bind (m := evEs cal is) (f := fun ds _ => M.pure (d :: ds)) h1).imp fun ds S2 α2 H2 e2 a2 h3 vs tvs => ?_⟩⟩
  exact h3.here α2 H2 (Ext.refl _ _) a2 (v :: vs) (.cons (tv.ext e2 a1) tvs)
theorem dp_zip {α : List Addr} {H : Hp} : ∀ {ks : List Str} {ds : List D} {vs : List V}, g.TlA α H ds vs → DP g α H ((ks.map Sum.inr).zip ds) ((ks.map Sum.inr).zip vs)
  | [], _, _, _ => by simp; exact .nil
  | _ :: _, _, _, .nil => by simp; exact .nil
  | k :: ks, _, _, .cons a b => .cons ⟨rfl, a⟩ (dp_zip b)
theorem zip_kV : ∀ {ks : List Str} {vs : List V}, (ks.map V.str).zip vs = (((ks.map (Sum.inr : Str → Key)).zip vs).map fun kv => (kV kv.1, kv.2))
  | [], _ => rfl
  | _ :: _, [] => rfl
  | k :: ks, v :: vs => by
    rw [List.map_cons, List.map_cons, List.zip_cons_cons, List.zip_cons_cons, List.map_cons, zip_kV]
    rfl
theorem rb_merge {n : Nat} : ∀ {more kvs : List (Key × D)}, (more.all fun kv => rb n kv.2) = true → (kvs.all fun kv => rb n kv.2) = true → ((more.foldl (fun acc kv => putD acc kv.1 kv.2) kvs).all fun kv => rb n kv.2) = true
  | [], _, _, h => h
  | kv :: more, kvs, h1, h2 => by
    rw [List.all_cons, Bool.and_eq_true] at h1
    exact rb_merge (more := more) h1.2 (rb_put h1.1 h2)
theorem e_dlit {keys : List (Option Expr)} {vals : List Expr} {ks : List Str} {is : Es} (h : PDl X g W cal pos keys vals ks is) (hall : keys.all (·.isSome) = true := by rfl) (hl : keys.length = vals.length := by rfl) (h0 : keys ≠ [] := by exact fun h => nomatch h)
    (h15 : keys.length ≤ 15 := by decide) : PE X (.Dict keys vals pos) (rE g W (evE cal (.dlit ks is))) := by
  obtain ⟨trs, h1, h2⟩ := h.ex
  refine pe_imp (pe_disp h1 hall hl h0 h15) fun σ H Q q p hp => ?_
  obtain ⟨α, S, ρ, a, r, w⟩ := q
  have w : wp (M.bind (evEs cal is ρ) (fun ds => M.bind (M.opt (dlitD ks ds)) fun kvs => alloc (.dic kvs)) S) _ _ := w
  obtain ⟨e0, a0⟩ := At.fresh a hp (u := .dK [])
  refine h2 _ _ _ ⟨α, S, ρ, a0, r.ext e0 a, wp_mono (wp_bind w) (fun ds S1 h3 α1 H1 e1 a1 vs tvs => ?_) fun x S' z cls dx α' H' e2 a2 t => z cls dx α' H' (e0.trans e2) a2 t⟩
  have np : p ∉ α1 := Ext.notin e1 upd_same (a.notin hp)
  have hu : H1 p = some (.dK []) := e1.keep p _ upd_same (a.notin hp)
  cases hk : dlitD ks ds with
  | none => simp only [M.bind, M.opt, hk] at h3; exact h3.elim
  | some kvs =>
    simp only [M.bind, M.opt, hk] at h3
    unfold dlitD at hk
    split at hk
    · rename_i hc
      cases hk
      have hlen : vs.length = ds.length := (Paired.length tvs).symm
      refine ⟨hu, (ks.map Sum.inr).zip vs, zip_kV, by rw [List.length_zip, List.length_map]; omega, ?_⟩
      unfold alloc at h3
      by_cases hb : rbO S1.length (.dic (mergeD ((ks.map Sum.inr).zip ds))) = true
      · simp only [hb, if_true] at h3
        have kt : KT H1 (L2.upd H1 p (.dK (mergeK [] ((ks.map Sum.inr).zip vs)))) := KT.soft hu (by exact True.intro)
        have a2 := At.apartS a1 hu (u := .dK (mergeK [] ((ks.map Sum.inr).zip vs))) (by exact True.intro) np
        have tvs2 : g.TlA α1 (L2.upd H1 p (.dK (mergeK [] ((ks.map Sum.inr).zip vs)))) ds vs := Paired.mapP tvs fun _ _ q => q.keep kt
        obtain ⟨a3, pre⟩ := At.take_in a2 np (o := .dic (mergeD ((ks.map Sum.inr).zip ds))) ⟨_, upd_same, dp_merge (dp_zip tvs2) .nil⟩ hb
        have e01 := e0.trans e1
        refine h3 (α1 ++ [p]) _ ⟨fun i b h => pre i b (e01.pre i b h), fun b o hbo hn => ?_, fun b hbm => ?_⟩ a3 _ ⟨p, ?_, rfl⟩
        · rw [upd_ne (fun e => by rw [e, hp] at hbo; cases hbo)]
          exact e01.keep b o hbo hn
        · rcases List.mem_append.mp hbm with z | z
          · exact e01.new b z
          · rw [List.mem_singleton] at z
            rw [z]
            exact .inr hp
        · rw [← a1.len, List.getElem?_append_right (Nat.le_refl _)]
          simp
      · simp only [hb] at h3
        exact h3.elim
    · cases hk
theorem e_dget3 {a b c : Expr} {ia ib ic : E} {apos : Pos} {CX : CXT} {k : Nat} (G : Gd X g W CX cal k) (ha : PE X a (rE g W (evE cal ia))) (hb : PE X b (rE g W (evE cal ib))) (hc : PE X c (rE g W (evE cal ic))) (m : M2 X a "get" apos b c pos := by exact ⟨rfl, rfl, rfl, rfl⟩) :
    PE X (.Call (.Attribute a "get" apos) [b, c] [] pos) (rE g W (evE cal (.dget3 ia ib ic))) := pe_imp (pe_dget2 (by have := G.hu; omega) ha hb hc m) fun σ H Q h => by
  obtain ⟨α, S, h⟩ := h
  refine ⟨α, S, (rAt.bind (m := evE cal ia) (f := fun x ρ => M.bind (fun S => M.opt (dicAt S x) S) fun _ => M.bind (evE cal ib ρ) fun y => M.bind (evE cal ic ρ) fun w => fun S => M.opt (dget3D S x y w) S) h).imp fun x S1 α1 H1 e1 a1 h1 v tv => ?_⟩
  obtain ⟨kvs, hds, k⟩ := (rAt.bind (m := fun _ => fun S => M.opt (dicAt S x) S) (f := fun _ ρ => M.bind (evE cal ib ρ) fun y => M.bind (evE cal ic ρ) fun w => fun S => M.opt (dget3D S x y w) S) h1).opt
  obtain ⟨b0, ws0, rfl, h5, h6⟩ := dic_at a1 tv hds
  refine ⟨b0, rfl, .inl ⟨ws0, .inl h5⟩, α1, S1, (rAt.bind (m := evE cal ib) (f := fun y ρ => M.bind (evE cal ic ρ) fun w => fun S => M.opt (dget3D S x y w) S) (k α1 H1 (Ext.refl _ _) a1)).imp fun y S2 α2 H2 e2 a2 h2 u tu =>
    ⟨α2, S2, (rAt.bind (m := evE cal ic) (f := fun w _ => fun S => M.opt (dget3D S x y w) S) h2).imp fun w S3 α3 H3 e3 a3 h3 t tt => ?_⟩⟩
  obtain ⟨z, hz, k2⟩ := h3.opt
  obtain ⟨kv2, q1, hz⟩ := Option.bind_eq_some_iff.mp hz
  obtain ⟨key, q2, hz⟩ := Option.map_eq_some_iff.mp hz
  subst hz
  obtain ⟨b1, ws, e, h7, h8⟩ := dic_at a3 ((tv.ext e2 a1).ext e3 a2) q1
  cases e
  rw [key_V tu q2]
  refine ⟨valV ws key, .k h7, k2 α3 H3 (Ext.refl _ _) a3 _ ?_⟩
  have vo := val_of (k := key) h8
  revert vo
  cases valD kv2 key <;> cases valV ws key <;> intro vo
  · exact tt
  · exact vo.elim
  · exact vo.elim
  · exact vo
/-! ### operations by values -/
theorem e_op2 {op : Operator} {f : Sto → D → D → Option D} {r : R2} {a b : Expr} {ia ib : E} (ho : OpR X (binaryOp op) r) (oo : Op2 g f r) (ha : PE X a (rE g W (evE cal ia))) (hb : PE X b (rE g W (evE cal ib))) :
    PE X (.BinOp a op b pos) (rE g W (evE cal (.op2 f ia ib))) := pe_imp (pe_op ho ha hb) fun _ _ _ h => tOp_of oo h
/-- a slice of a list, a tuple or a text -/
theorem e_slp {a : Expr} {ia : E} {lo hi : Option Expr} {l h : Bd} {p2 : Pos} (hK : X.K = g.K) (ha : PE X a (rE g W (evE cal ia))) (hl : PO X lo (rB g W (evB cal l))) (hh : PO X hi (rB g W (evB cal h))) : PE X (.Subscript a (.Slice lo hi none p2) pos) (rE g W (evE cal (.slp ia l h))) := by
  have s1 := SlR.or (SlR.or (sl_tupF (X := X)) sl_str) sl_list
  rw [hK] at s1
  refine pe_imp (pe_slice s1 ha hl hh) fun σ H Q q => ?_
  obtain ⟨α, S, q⟩ := q
  refine ⟨α, S, (rAt.bind (m := evE cal ia) (f := fun x ρ => M.bind (evB cal l ρ) fun u => M.bind (evB cal h ρ) fun w => match x with
    | .ref j => M.bind (fun S => M.opt (cutLD S (.ref j) u w) S) fun ds => alloc (.lst ds)
    | x => M.opt (sliceD x u w)) q).imp fun x S1 α1 H1 e1 a1 h1 v tv => ?_⟩
  refine ⟨α1, S1, (rAt.bind (m := evB cal l) (f := fun u ρ => M.bind (evB cal h ρ) fun w => match x with
    | .ref j => M.bind (fun S => M.opt (cutLD S (.ref j) u w) S) fun ds => alloc (.lst ds)
    | x => M.opt (sliceD x u w)) h1).imp fun u S2 α2 H2 e2 a2 h2 => ?_⟩
  refine ⟨α2, S2, (rAt.bind (m := evB cal h) (f := fun w _ => match x with
    | .ref j => M.bind (fun S => M.opt (cutLD S (.ref j) u w) S) fun ds => alloc (.lst ds)
    | x => M.opt (sliceD x u w)) h2).imp fun w S3 α3 H3 e3 a3 h3 => ?_⟩
  have tv := (tv.ext e2 a1).ext e3 a2
  have plainC : ∀ x : D, g.Tl α3 H3 x v → rAt g W α3 S3 (fun _ => fun S => M.opt (sliceD x u w) S) σ H3 (fun d _ α' H' => ∀ v, g.Tl α' H' d v → Q v H') → (rSlF g.K v u w H3 Q ∨ rSlS v u w H3 Q) ∨ rSlL g.K v u w H3 Q := fun x tv h3 => by
    obtain ⟨z, hz, k⟩ := (rAt.opt (o := fun _ => sliceD x u w) h3)
    exact .inl (slice_of a3 tv hz k)
  cases x with
  | p d => exact plainC _ tv h3
  | fn i => exact plainC _ tv h3
  | ref j =>
    obtain ⟨ρ, _, r, q3⟩ := h3
    have q3 : wp (M.bind (fun S => M.opt (cutLD S (.ref j) u w) S) (fun ds => alloc (.lst ds)) S3) _ _ := q3
    cases e : cutLD S3 (.ref j) u w with
    | none => simp only [M.bind, M.opt, e] at q3; exact q3.elim
    | some ds =>
      simp only [M.bind, M.opt, e] at q3
      obtain ⟨d1, q1, e5⟩ := Option.map_eq_some_iff.mp e
      subst e5
      obtain ⟨b1, xs, rfl, h5, h6⟩ := lst_at a3 tv q1
      refine .inr ⟨b1, xs, rfl, SqL.of h5, fun p hp => ?_⟩
      obtain ⟨e4, a4⟩ := At.fresh a3 hp (u := .lst (cutV xs u w))
      have hx := TlA.ext e4 a3 h6
      have hc : g.TlA α3 (L2.upd H3 p (.lst (cutV xs u w))) (cutD d1 u w) (cutV xs u w) := by
        unfold cutD cutV
        rw [Paired.length h6]
        exact paired_take _ (paired_drop _ hx)
      unfold alloc at q3
      by_cases hb : rbO S3.length (.lst (cutD d1 u w)) = true
      · simp only [hb, if_true] at q3
        obtain ⟨a5, pre⟩ := At.take_in a4 (a3.notin hp) (o := .lst (cutD d1 u w)) ⟨_, upd_same, hc⟩ hb
        refine q3 (α3 ++ [p]) _ ⟨fun i b h => pre i b (e4.pre i b h), e4.keep, fun b hbm => ?_⟩ a5 _ ⟨p, ?_, rfl⟩
        · rcases List.mem_append.mp hbm with z | z
          · exact e4.new b z
          · rw [List.mem_singleton] at z
            rw [z]
            exact .inr hp
        · rw [← a3.len, List.getElem?_append_right (Nat.le_refl _)]
          simp
      · simp only [hb] at q3
        exact q3.elim
end
end Ir
set_option Elab.async false
set_option linter.all false
set_option maxRecDepth 100000
set_option maxHeartbeats 4000001
/-! Stars in displays, f-strings, truth, += of lists, d[k], one comprehension within another. -/
namespace Ir
open PySem L2 PySem.Spec PyProof.Rows
section
variable {X : Cx} {g : Gc} {W : WX} {cal : Nat → List D → M D} {pos : Pos}
theorem of_at {α : List Addr} {H : Hp} {S : Sto} {x : D} {v : V} {ds : List D} (a : g.At α H S) (t : g.Tl α H x v) (h : ofD S x = some ds) : ∃ p xs, v = .ref p ∧ (SqT g.K H p xs ∨ SqL g.K H p xs) ∧ g.TlA α H ds xs := by
  unfold ofD at h
  split at h
  · rename_i j
    obtain ⟨b, xs, e, h1, h2⟩ := lst_at a t h
    exact ⟨b, xs, e, .inr (SqL.of h1), h2⟩
  · cases h
    cases t with
    | tup hq hx => exact ⟨_, _, rfl, .inl hq.sq, TpA.toTl hx⟩
  · cases h
    cases t with
    | lst hq hx => exact ⟨_, _, rfl, .inr hq.sq, TpA.toTl hx⟩
  · cases h
theorem a_star {e : Expr} {es : List Expr} {i : E} {is : Es} {p : Pos} (hK : X.K = g.K) (h1 : PE X e (rE g W (evE cal i))) (h2 : PA X es (rA g W (evEs cal is))) (hs : starEach (.Starred e p :: es) X.env = (true, eval e X.env) :: starEach es X.env := by rfl) :
    PA X (.Starred e p :: es) (rA g W (evEs cal (.star i is))) := by
  have h := StX.pa_star (X := X) h1 h2 hs
  rw [hK] at h
  refine pa_imp h fun σ H Q h => ?_
  obtain ⟨α, S, h⟩ := h
  refine ⟨α, S, (rAt.bind (m := evE cal i) (f := fun x ρ => M.bind (fun S => M.opt (ofD S x) S) fun xs => M.bind (evEs cal is ρ) fun ds => M.pure (xs ++ ds)) h).imp fun x S1 α1 H1 e1 a1 h1 v tv => ?_⟩
  obtain ⟨xs, hx, k⟩ := (rAt.bind (m := fun _ => fun S => M.opt (ofD S x) S) (f := fun xs ρ => M.bind (evEs cal is ρ) fun ds => M.pure (xs ++ ds)) h1).opt
  obtain ⟨p0, ws, rfl, hq, tw⟩ := of_at a1 tv hx
  refine ⟨p0, ws, rfl, hq, α1, S1, (rAt.bind (m := evEs cal is) (f := fun ds _ => M.pure (xs ++ ds)) (k α1 H1 (Ext.refl _ _) a1)).imp fun ds S2 α2 H2 e2 a2 h3 us tus => ?_⟩
  exact h3.here α2 H2 (Ext.refl _ _) a2 _ (Paired.app (TlA.ext e2 a1 tw) tus)
/-! ### f-strings -/
/-- the parts of an f-string -/
structure FJ (X : Cx) (g : Gc) (W : WX) (cal : Nat → List D → M D) (es : List Expr) (is : Es) : Prop where
  ex : ∃ ts, PJ X es ts ∧ ∀ acc σ H (Q : Str → Hp → Prop), (rM g W (evF cal is acc) σ H fun z _ _ H' => Q z H') → tJs ts acc σ H Q
theorem j_nil : FJ X g W cal [] .nil := ⟨[], .nil, fun acc σ H Q h => by
  obtain ⟨α, S, h⟩ := h
  exact h.here α H (Ext.refl _ _) h.at_⟩
theorem fstep_of {acc z : Str} {d : D} (h : fstep acc d = some z) : ∃ y, fpart d = some y ∧ (acc ++ y).length ≤ sizeLine ∧ z = acc ++ y := by
  unfold fstep at h
  obtain ⟨y, e1, e2⟩ := Option.bind_eq_some_iff.mp h
  split at e2
  · rename_i hl; cases e2; exact ⟨y, e1, hl, rfl⟩
  · cases e2
theorem j_any {e : Expr} {t : TE} {es : List Expr} {i : E} {is : Es} (he : PE X e t) (hr : FJ X g W cal es is)
    (ht : ∀ σ H (Q : VK), (rM g W (evE cal i) σ H fun d _ _ H' => ∃ y, fpart d = some y ∧ Q (.str y) H') → t σ H Q) : FJ X g W cal (e :: es) (.cons i is) := by
  obtain ⟨ts, h1, h2⟩ := hr.ex
  refine ⟨_, .cons he h1, fun acc σ H Q h => ht _ _ _ ?_⟩
  obtain ⟨α, S, h⟩ := h
  refine ⟨α, S, (rAt.bind (m := evE cal i) (f := fun d ρ => M.bind (M.opt (fstep acc d)) fun acc' => evF cal is acc' ρ) h).imp fun d S1 α1 H1 e1 a1 h1 => ?_⟩
  obtain ⟨z, hz, k⟩ := (rAt.bind (m := fun _ => M.opt (fstep acc d)) (f := fun acc' ρ => evF cal is acc' ρ) h1).opt
  obtain ⟨y, ey, hl, rfl⟩ := fstep_of hz
  exact ⟨y, ey, y, rfl, hl, h2 _ _ _ _ ⟨α1, S1, k α1 H1 (Ext.refl _ _) a1⟩⟩
theorem j_txt {y : Str} {j : Nat} {p : Pos} {es : List Expr} {is : Es} (hr : FJ X g W cal es is) : FJ X g W cal (.Constant (.str y) j p :: es) (.cons (.cst (.p (.str y))) is) :=
  j_any pe_str hr fun σ H Q h => by
    obtain ⟨α, S, h⟩ := h
    obtain ⟨z, hz, q⟩ := h.here α H (Ext.refl _ _) h.at_
    have hz : (if y.length ≤ sizeLine then some y else none) = some z := hz
    split at hz
    · cases hz; exact q
    · cases hz
theorem j_fmt {e : Expr} {i : E} {p : Pos} {es : List Expr} {is : Es} (he : PE X e (rE g W (evE cal i))) (hr : FJ X g W cal es is) : FJ X g W cal (.FormattedValue e (-1) none p :: es) (.cons i is) :=
  j_any (pe_fmt he) hr fun σ H Q h => by
    obtain ⟨α, S, h⟩ := h
    refine ⟨α, S, h.imp fun d S1 α1 H1 e1 a1 q v tv => ?_⟩
    obtain ⟨y, hz, q⟩ := q
    unfold fpart at hz
    split at hz
    · split at hz
      · rename_i hl
        cases hz
        cases tv
        exact .inr ⟨_, rfl, hl, q⟩
      · cases hz
    · split at hz
      · rename_i hl
        cases hz
        cases tv
        exact .inl ⟨_, rfl, hl, q⟩
      · cases hz
    · cases hz
theorem e_fstr {v1 v2 : Expr} {rest : List Expr} {is : Es} (h : FJ X g W cal (v1 :: v2 :: rest) is) : PE X (.JoinedStr (v1 :: v2 :: rest) pos) (rE g W (evE cal (.fstr is))) := by
  obtain ⟨ts, h1, h2⟩ := h.ex
  refine pe_imp (pe_joined h1) fun σ H Q h => h2 _ _ _ _ ?_
  obtain ⟨α, S, h⟩ := h
  exact ⟨α, S, (rAt.bind (m := evF cal is Str.empty) (f := fun z _ => M.pure (D.p (.str z))) h).imp fun z S1 α1 H1 e1 a1 h1 => (rAt.here (b := D.p (.str z)) h1) α1 H1 (Ext.refl _ _) a1 (.str z) (.str _)⟩
/-! ### truth -/
theorem t_truth {e : Expr} {ie : E} (hK : X.K = g.K) (h : PE X e (rE g W (evE cal ie))) (he : ∀ whole, isTrue e X.env whole = (do let v ← whole; standAt e.pos; holding [v] (truthy v)) := by intro _; rfl) : PT X e (rT g W (evE cal (.op1 truthD ie))) := by
  have h := pt_truth h he
  rw [hK] at h
  refine pt_imp h fun σ H Q q => ?_
  obtain ⟨α, S, q⟩ := q
  refine ⟨α, S, (rAt.bind (m := evE cal ie) (f := fun x _ => fun S => M.opt (truthD S x) S) q).imp fun x S1 α1 H1 e1 a1 h1 v tv => ?_⟩
  obtain ⟨z, hz, k⟩ := h1.opt
  obtain ⟨b, ez, q⟩ := k α1 H1 (Ext.refl _ _) a1
  subst ez
  refine ⟨b, ?_, q⟩
  unfold truthD at hz
  split at hz
  · cases hz; cases tv; rfl
  · cases hz; cases tv; rfl
  · cases hz; cases tv
    rename_i i
    show _ = (i != 0)
    by_cases e : i = 0 <;> simp [e]
  · split at hz
    · rename_i y hl
      cases hz
      cases tv
      refine ⟨hl, ?_⟩
      by_cases e : y.length = 0
      · simp [e]
      · have e2 : ((y.length : Int) != 0) = true := by simp [e]
        rw [e2]
        simp [e]
    · cases hz
  · cases hz
    cases tv with
    | tup hq hx =>
      refine .inr (.inl ⟨_, hq.sq, ?_⟩)
      cases hx <;> rfl
  · split at hz
    · rename_i j ds hj
      cases hz
      obtain ⟨p, xs, h4, h5, h6⟩ := At.lst a1 hj
      obtain ⟨p', h4', rfl⟩ := tv
      rw [h4] at h4'
      cases h4'
      refine .inl ⟨_, SqL.of h5, ?_⟩
      cases h6 <;> rfl
    · rename_i j ds hj
      cases hz
      obtain ⟨p, xs, h4, h5, h6⟩ := At.dic a1 hj
      obtain ⟨p', h4', rfl⟩ := tv
      rw [h4] at h4'
      cases h4'
      refine .inr (.inr ⟨_, h5, ?_⟩)
      cases h6 <;> rfl
    · cases hz
  · cases hz
theorem augL_run {m : M D} {o : Option D} {d : D} {c : Ctl × Sl} {S : Sto} {okk : Ctl × Sl → Sto → Prop} {exx : Ex → Sto → Prop} (ho : o = some d)
    (w : wp (M.bind (M.bind (M.opt o) fun x => M.bind (fun S => M.opt (lstAt S x) S) fun _ => M.bind m fun y => extD x y) (fun _ => M.pure c) S) okk exx) : wp (m S) (fun y S2 => wp (extD d y S2) (fun _ S3 => okk c S3) exx) exx := by
  subst ho
  have w1 : wp (M.bind (fun S => M.opt (lstAt S d) S) (fun _ => M.bind m fun y => extD d y) S) (fun _ S3 => okk c S3) exx := wp_bind w
  cases hl : lstAt S d with
  | none => simp only [M.bind, M.opt, hl] at w1; exact w1.elim
  | some ds0 =>
    simp only [M.bind, M.opt, hl] at w1
    exact wp_bind w1
/-! ### x += ys -/
theorem s_augL (i : Nat) {x : Str} {e : Expr} {ie : E} {p : Pos} {CX : CXT} {k : Nat} (G : Gd X g W CX cal k) (he : PE X e (rE g W (evE cal ie))) (hi : X.N[i]? = some x := by rfl) (hx : Loc X.env.scope x := by first | exact .inl rfl | exact .inr rfl)
    (hf : X.fn x = true ∨ X.env.scope.names.lookup x = some .local := by first | exact .inl rfl | exact .inr rfl) : PS X (.AugAssign (.Name x p) .Add e pos) (rS g W (exS cal (.expr (.extend (.var i) ie)))) :=
  ps_imp (ps_aug (ti := rExt2) G.nd hi hx he iop_ext hf) fun D σ H h => by
    obtain ⟨α, S, ρ, a, r, w⟩ := h
    have w : wp (M.bind (M.bind (M.opt (match ρ[i]? with | some (some d) => some d | _ => none)) fun x => M.bind (fun S => M.opt (lstAt S x) S) fun _ => M.bind (evE cal ie ρ) fun y => extD x y) (fun _ => M.pure (Ctl.next, ρ)) S) _ _ := w
    cases q : ρ[i]? with
    | none => simp only [q, M.opt, M.bind] at w; exact w.elim
    | some o =>
      cases o with
      | none => simp only [q, M.opt, M.bind] at w; exact w.elim
      | some d =>
        obtain ⟨v, hv, tv⟩ := r.at_ i d q
        have w2 := augL_run (d := d) (by rw [q]) w
        · refine ⟨v, hv, α, S, ρ, a, r, wp_mono w2 (fun y S2 w3 α2 H2 e2 a2 u tu => ?_) fun x S' z cls dx α' H' e a' t => z cls dx α' H' σ e a' t⟩
          have tv2 := tv.ext e2 a
          cases d with
          | p _ => exact (show False from w3).elim
          | fn _ => exact (show False from w3).elim
          | ref j =>
            unfold extD at w3
            cases ej : S2[j]? with
            | none => simp only [ej] at w3; exact w3.elim
            | some o =>
              cases o with
              | dic _ => simp only [ej] at w3; exact w3.elim
              | lst ds =>
                cases ey : lstAt S2 y with
                | none => simp only [ej, ey] at w3; exact w3.elim
                | some es =>
                  simp only [ej, ey] at w3
                  by_cases hb : es.all (rb j) = true ∧ ds.length + es.length ≤ 100000
                  · rw [if_pos hb] at w3
                    obtain ⟨b1, xs, h7, h8, h9⟩ := At.lst a2 ej
                    obtain ⟨b3, zs, eu, h10, h11⟩ := lst_at a2 tu ey
                    obtain ⟨b2, h7', e⟩ := tv2
                    rw [h7] at h7'
                    cases h7'
                    subst e
                    subst eu
                    refine ⟨b1, b3, xs, zs, rfl, rfl, h8, h10, by rw [← Paired.length h9, ← Paired.length h11, sizeLine_eq]; omega, ?_⟩
                    have hw := a2.wf j _ ej
                    have hb2 : rbO j (.lst (ds ++ es)) = true := by
                      have hw : ds.all (rb j) = true := hw
                      show (ds ++ es).all (rb j) = true
                      rw [List.all_append, Bool.and_eq_true]
                      exact ⟨hw, hb.1⟩
                    obtain ⟨e6, a6⟩ := At.upd a2 h7 hb2 (u := .lst (xs ++ zs)) fun H' kt hu => ⟨_, hu, Paired.app (Paired.mapP h9 fun _ _ q => q.keep kt) (Paired.mapP h11 fun _ _ q => q.keep kt)⟩
                    have es : σ.set i (some (.ref b1)) = σ := by
                      apply List.ext_getElem?
                      intro m
                      by_cases z : i = m
                      · subst z
                        rw [List.getElem?_set_self (List.getElem?_eq_some_iff.mp hv).1, hv]
                      · rw [List.getElem?_set_ne z]
                    show D.nx (σ.set i (some (.ref b1))) _
                    rw [es]
                    exact w3 α2 _ σ (e2.trans e6) a6 (r.ext (e2.trans e6) a)
                  · rw [if_neg hb] at w3
                    exact w3.elim
/-! ### d[k] -/
def dixD (S : Sto) (x y : D) : Option D := (dicAt S x).bind fun kvs => (keyOf y).bind fun k => valD kvs k
theorem e_dix {a b : Expr} {ia ib : E} {CX : CXT} {k : Nat} (G : Gd X g W CX cal k) (ha : PE X a (rE g W (evE cal ia))) (hb : PE X b (rE g W (evE cal ib))) (hs : NoSl b := by exact fun _ _ => rfl) :
    PE X (.Subscript a b pos) (rE g W (evE cal (.op2 dixD ia ib))) := pe_imp (pe_dget (by have := G.hu; omega) ha hb hs) fun σ H Q h => by
  obtain ⟨α, S, h⟩ := h
  refine ⟨α, S, (rAt.bind (m := evE cal ia) (f := fun x ρ => M.bind (evE cal ib ρ) fun y => fun S => M.opt (dixD S x y) S) h).imp fun x S1 α1 H1 e1 a1 h1 v tv => ⟨α1, S1, (rAt.bind (m := evE cal ib) (f := fun y _ => fun S => M.opt (dixD S x y) S) h1).imp fun y S2 α2 H2 e2 a2 h2 u tu => ?_⟩⟩
  obtain ⟨z, hz, k2⟩ := h2.opt
  obtain ⟨kv2, q1, hz⟩ := Option.bind_eq_some_iff.mp hz
  obtain ⟨key, q2, hz⟩ := Option.bind_eq_some_iff.mp hz
  obtain ⟨b1, ws, rfl, h7, h8⟩ := dic_at a2 (tv.ext e2 a1) q1
  have vo := val_of (k := key) h8
  rw [hz] at vo
  cases e : valV ws key with
  | none => rw [e] at vo; exact vo.elim
  | some w =>
    rw [e] at vo
    refine ⟨b1, w, rfl, ?_, k2 α2 H2 (Ext.refl _ _) a2 _ vo⟩
    rw [key_V tu q2, ← e]
    exact DGet.k h7
/-! ### one comprehension within another -/
/-- more of the store, tuples stay -/
structure Kp (α α' : List Addr) (H H' : Hp) : Prop where
  pre : ∀ (i : Nat) (a : Addr), α[i]? = some a → α'[i]? = some a
  kt : KT H H'
theorem Tl.kp {K : PySem.W.Frag} {ph : Nat → Option Addr} {α α' : List Addr} {H H' : Hp} (k : Kp α α' H H') : ∀ {d : D} {v : V}, Ir.Tl K ph α H d v → Ir.Tl K ph α' H' d v
  | .p _, _, h => Tp.keep k.kt h
  | .ref _, _, ⟨a, h1, h2⟩ => ⟨a, k.pre _ _ h1, h2⟩
  | .fn _, _, h => h
theorem Sr.kp {K : PySem.W.Frag} {ph : Nat → Option Addr} {α α' : List Addr} {H H' : Hp} {σ : L2.St} {ρ : Sl} (k : Kp α α' H H') (r : Ir.Sr K ph α H σ ρ) : Ir.Sr K ph α' H' σ ρ := ⟨r.len, fun i d h => let ⟨v, h1, h2⟩ := r.at_ i d h; ⟨v, h1, h2.kp k⟩⟩
def WkK (g : Gc) (ds : List PyData) (J : It) (α0 : List Addr) (H0 : Hp) : Prop := ∀ i α H, Kp α0 α H0 H →
  (∀ d, ds[i]? = some d → J.go i H ∧ ∀ x H', J.yld i H x H' → H' = H ∧ g.Tl α H (.p d) x) ∧ (ds[i]? = none → J.stop i H)
def rIK (g : Gc) (W : WX) (m : Sl → M D) : TI := fun σ H R => rM g W m σ H fun x _ α' H' => ∃ ds, x = .p (.tuple ds) ∧ ∀ J, WkK g ds J α' H' → R J H'
theorem i_tupK {tg e : Expr} {ie : E} (hK : X.K = g.K) (h : PE X e (rE g W (evE cal ie))) : PI X tg e (rIK g W (evE cal ie)) := by
  have h1 := pi_tup (tg := tg) h
  rw [hK] at h1
  refine pi_imp h1 fun σ H R q => ?_
  obtain ⟨α, S, q⟩ := q
  refine ⟨α, S, q.imp fun x S1 α1 H1 e1 a1 h1 v tv => ?_⟩
  obtain ⟨ds, rfl, k⟩ := h1
  cases tv with
  | @tup a xs _ hq ha =>
    refine ⟨a, rfl, ⟨xs, hq.sq⟩, k _ fun i α2 H2 e2 => ⟨fun d hd => ?_, fun hd => ?_⟩⟩
    · obtain ⟨v, hv, tv⟩ := ha.get hd
      refine ⟨⟨xs, v, sqT_keep e2.kt hq.sq, hv⟩, fun y H' hy => ?_⟩
      obtain ⟨rfl, hy⟩ := hy
      have e3 := hy xs (sqT_keep e2.kt hq.sq)
      rw [hv] at e3
      cases e3
      exact ⟨rfl, Tp.keep e2.kt tv⟩
    · exact ⟨xs, sqT_keep e2.kt hq.sq, tpa_get ha hd⟩
theorem KT.trans {H H' H'' : Hp} (x : KT H H') (y : KT H' H'') : KT H H'' := ⟨fun a xs h => y.tup a xs (x.tup a xs h), fun a o u h => y.frz a o u (x.frz a o u h)⟩
theorem Kp.trans {α α' α'' : List Addr} {H H' H'' : Hp} (x : Kp α α' H H') (y : Kp α' α'' H' H'') : Kp α α'' H H'' := ⟨fun i a h => y.pre i a (x.pre i a h), x.kt.trans y.kt⟩
theorem Kp.of {α α' : List Addr} {H H' : Hp} {S : Sto} (e : Ext α α' H H') (a : g.At α H S) : Kp α α' H H' := ⟨e.pre, e.kt a⟩
theorem Kp.refl (α : List Addr) (H : Hp) : Kp α α H H := ⟨fun _ _ h => h, ⟨fun _ _ h => h, fun _ _ _ h => h⟩⟩
theorem tYes_ (σ : L2.St) (H : Hp) {Q : Bool → Hp → Prop} (h : Q true H) : tYes σ H Q := h
/-- the inner row of values, from turn j on -/
theorem inner_of {ds : List PyData} {tgs2 : List Nat} {one2 : Bool} {ie : E} {ρ' : Sl} {σ2 : L2.St} {p : Addr} {α1 : List Addr} {H1 : Hp} {J1 : It} {α3 : List Addr} {H3 : Hp} {S3 : Sto} {acc : List D} {xs : List V} {Nx : Hp → Prop} {Kn : List D → Sto → Prop}
    (hp : H1 p = none) (e13 : Ext α1 α3 H1 H3) (a3 : g.At α3 H3 S3) (np : p ∉ α3) (hx : H3 p = some (.lst xs)) (tx : g.TlA α3 H3 acc xs) (r3 : g.Sr α3 H3 σ2 ρ') (wk : WkK g ds J1 α3 H3) (hl : acc.length + ds.length ≤ 100000)
    (w : wp (lcGo (.fix (ds.map .p)) (fun d => match tgt tgs2 one2 d (wipeD ρ' tgs2) with | some ρ'' => evE cal ie ρ'' | none => M.bad) ds.length 0 acc S3) Kn (fun _ _ => False))
    (fin : ∀ α4 H4 S4 acc4 xs4, Ext α1 α4 H1 H4 → g.At α4 H4 S4 → p ∉ α4 → H4 p = some (.lst xs4) → g.TlA α4 H4 acc4 xs4 → Kn acc4 S4 → Nx H4) :
    ∃ W1 : Nat → Nat → Hp → Prop, (∃ m, W1 0 m H3) ∧ ∀ j k H, W1 j k H → (J1.stop j H ∧ Nx H) ∨ (J1.go j H ∧ ∃ Nx1 : Hp → Prop, (∀ H', Nx1 H' → ∃ k', k' < k ∧ W1 (j + 1) k' H') ∧ ∀ x H', J1.yld j H x H' →
      rG g tgs2 one2 x (L2.wipe σ2 tgs2) H' fun σ3 H5 => L2.wipe σ3 tgs2 = L2.wipe σ2 tgs2 ∧ tYes σ3 H5 fun b H6 =>
        if b = true then rE g W0 (evE cal ie) σ3 H6 fun y H7 => ∃ acc, H7 p = some (.lst acc) ∧ acc.length < sizeLine ∧ Nx1 (L2.upd H7 p (.lst (acc ++ [y]))) else Nx1 H6) := by
  let Wg : Nat → Nat → Hp → Prop := fun j k H4 => ∃ α4 S4 acc4 xs4, Ext α1 α4 H1 H4 ∧ Kp α3 α4 H3 H4 ∧ g.At α4 H4 S4 ∧ p ∉ α4 ∧ H4 p = some (.lst xs4) ∧ g.TlA α4 H4 acc4 xs4 ∧ acc4.length + k ≤ 100000 ∧
    wp (lcGo (.fix (ds.map .p)) (fun d => match tgt tgs2 one2 d (wipeD ρ' tgs2) with | some ρ'' => evE cal ie ρ'' | none => M.bad) k j acc4 S4) Kn (fun _ _ => False)
  refine ⟨Wg, ⟨ds.length, α3, S3, acc, xs, e13, Kp.refl _ _, a3, np, hx, tx, hl, w⟩, ?_⟩
  rintro j k H4 ⟨α4, S4, acc4, xs4, e4, k4, a4, np4, hx4, tx4, hl4, w4⟩
  have wkj := wk j α4 H4 k4
  have hat : ∀ S, (Src.fix (ds.map D.p)).at j S = some ((ds.map D.p)[j]?) := fun _ => rfl
  cases hd : ds[j]? with
  | none =>
    refine .inl ⟨wkj.2 hd, fin α4 H4 S4 acc4 xs4 e4 a4 np4 hx4 tx4 ?_⟩
    have e0 : (ds.map D.p)[j]? = none := by rw [List.getElem?_map, hd]; rfl
    cases k <;> (simp only [lcGo, hat, e0] at w4; exact w4)
  | some d =>
    have e0 : (ds.map D.p)[j]? = some (.p d) := by rw [List.getElem?_map, hd]; rfl
    cases k with
    | zero => simp only [lcGo, hat, e0] at w4; exact w4.elim
    | succ k =>
      simp only [lcGo, hat, e0] at w4
      obtain ⟨go, yl⟩ := wkj.1 d hd
      refine .inr ⟨go, Wg (j + 1) k, fun H' q => ⟨k, Nat.lt_succ_self _, q⟩, fun x H' hy => ?_⟩
      obtain ⟨rfl, ty⟩ := yl x H' hy
      have w5 := wp_bind w4
      cases ht : tgt tgs2 one2 (.p d) (wipeD ρ' tgs2) with
      | none => rw [ht] at w5; exact w5.elim
      | some ρ'' =>
        rw [ht] at w5
        refine ⟨α4, S4, wipeD ρ' tgs2, .p d, ρ'', a4, (Sr.kp k4 r3).wipe tgs2, .inl ty, ht, fun σ' r' ag => ⟨ag.wipe.trans (Ag.wipe (σ := σ2) (σ' := L2.wipe σ2 tgs2) ⟨wipe_length _ _, fun j hj => by rw [wipe_get, if_neg (fun z => hj z.1)]⟩), ?_⟩⟩
        refine tYes_ _ _ ?_
        rw [if_pos rfl]
        refine ⟨α4, S4, ρ'', a4, r', wp_mono w5 (fun z S5 w6 α5 H5 e5 a5 v tv => ?_) fun _ _ z => z.elim⟩
        have hx5 : H5 p = some (.lst xs4) := e5.keep p _ hx4 np4
        have np5 : p ∉ α5 := e5.notin hx4 np4
        have tx5 : g.TlA α5 H5 acc4 xs4 := TlA.ext e5 a4 tx4
        have hlen : xs4.length = acc4.length := (Paired.length tx4).symm
        have kt : KT H5 (L2.upd H5 p (.lst (xs4 ++ [v]))) := KT.lst hx5
        have ee := e4.trans e5
        refine ⟨xs4, hx5, by rw [hlen]; exact Nat.lt_of_lt_of_le (by omega : acc4.length < 100001) (by rw [sizeLine_eq]; decide), α5, S5, acc4 ++ [z], xs4 ++ [v], ?_, (k4.trans (Kp.of e5 a4)).trans ⟨fun _ _ h => h, kt⟩, a5.apart hx5 np5, np5, upd_same, ?_, by rw [List.length_append, List.length_singleton]; omega, w6⟩
        · exact ⟨ee.pre, fun b o hb n => by rw [upd_ne (fun z => by rw [z, hp] at hb; cases hb)]; exact ee.keep b o hb n, ee.new⟩
        · exact Paired.app (Paired.mapP tx5 fun _ _ q => q.keep kt) (.cons (tv.keep kt) .nil)
theorem lc2_of {it : Wi} {ie2 : E} {tgs tgs2 : List Nat} {one one2 : Bool} {ie : E} {σ : L2.St} {H : Hp} {Q : VK} (h : rLn g W (evL cal (.lc2 it tgs one ie2 tgs2 one2 ie)) σ H Q) :
    tLc2 (rI g W one (evI cal it)) (rG g tgs one) tYes (rIK g W0 (evE cal ie2)) (rG g tgs2 one2) tYes (rE g W0 (evE cal ie)) (tgs ++ tgs2) tgs2 σ H Q := by
  obtain ⟨α, S, ρ, a, r, w⟩ := h
  let F : D → List D → M (List D) := fun d acc => M.calm (match tgt tgs one d (wipeD ρ (tgs ++ tgs2)) with
        | some ρ' => M.bind (evE cal ie2 ρ') fun x => match x with
          | .p (.tuple ds) => if acc.length + ds.length ≤ 100000 then lcGo (.fix (ds.map .p)) (fun d => match tgt tgs2 one2 d (wipeD ρ' tgs2) with
            | some ρ'' => evE cal ie ρ''
            | none => M.bad) ds.length 0 acc else M.bad
          | _ => M.bad
        | none => M.bad)
  let OK : List D → Sto → Prop := fun ds S' => ∀ α' H', Ext α α' H H' → g.At α' H' S' → ∀ p xs, H p = none → p ∉ α' → H' p = some (.lst xs) → g.TlA α' H' ds xs → Q (.ref p) H'
  have w : wp (M.bind (evI cal it ρ) (fun src => fun S => match src.size S with
    | some n => if n ≤ 100000 then lc2Go src F n 0 [] S else .bad
    | none => .bad) S) OK (exW g W α σ H) := w
  refine ⟨α, S, ρ, a, r, wp_mono (wp_bind w) (fun src S1 h1 α1 H1 e1 a1 J wk p hp => ?_) fun _ _ z => z⟩
  cases hn : src.size S1 with
  | none => rw [hn] at h1; exact h1.elim
  | some n =>
    rw [hn] at h1
    by_cases hl : n ≤ 100000
    · simp only [hl, if_true] at h1
      obtain ⟨ef, af⟩ := At.fresh a1 hp (u := .lst [])
      have hp0 : H p = none := e1.none a1 hp
      let Wf : Nat → Nat → Hp → Prop := fun i m H2 => ∃ α2 S2 acc xs, Ext α1 α2 H1 H2 ∧ g.At α2 H2 S2 ∧ p ∉ α2 ∧ H2 p = some (.lst xs) ∧ g.TlA α2 H2 acc xs ∧ wp (lc2Go src F m i acc S2) OK (exW g W α σ H)
      refine ⟨Wf, ⟨n, α1, S1, [], [], ef, af, a1.notin hp, upd_same, .nil, h1⟩, ?_⟩
      rintro i m H2 ⟨α2, S2, acc, xs, e2, a2, np, hx, tx, w2⟩
      have wki := wk i α2 H2 S2 e2 a2
      cases hat : src.at i S2 with
      | none => cases m <;> (simp only [lc2Go, hat] at w2; exact w2.elim)
      | some o =>
        cases o with
        | none =>
          refine .inl ⟨wki.2 hat, ?_⟩
          have w3 : OK acc S2 := by cases m <;> (simp only [lc2Go, hat] at w2; exact w2)
          exact w3 α2 H2 (e1.trans e2) a2 p xs hp0 np hx tx
        | some d =>
          cases m with
          | zero => simp only [lc2Go, hat] at w2; exact w2.elim
          | succ m =>
            simp only [lc2Go, hat] at w2
            obtain ⟨go, yl⟩ := wki.1 d hat
            refine .inr ⟨go, Wf (i + 1) m, fun H' q => ⟨m, Nat.lt_succ_self _, q⟩, fun x H' hy => ?_⟩
            obtain ⟨ey, ay, ty⟩ := yl x H' hy
            have w3 := wp_bind w2
            have w4 := calm_wp (ex' := fun _ _ => False) w3
            cases ht : tgt tgs one d (wipeD ρ (tgs ++ tgs2)) with
            | none => rw [ht] at w4; exact w4.elim
            | some ρ' =>
              rw [ht] at w4
              have eH := (e1.trans (e2.trans ey))
              refine ⟨α2, S2, wipeD ρ (tgs ++ tgs2), d, ρ', ay, ((r.ext eH a).wipe (tgs ++ tgs2)), ty, ht, fun σ' r' ag => ⟨(ag.mono (ws := tgs ++ tgs2) fun i hi => List.mem_append_left _ hi).wipe.trans (Ag.wipe (σ := σ) (σ' := L2.wipe σ (tgs ++ tgs2)) ⟨wipe_length _ _, fun j hj => by rw [wipe_get, if_neg (fun z => hj z.1)]⟩), ?_⟩⟩
              refine tYes_ _ _ ?_
              rw [if_pos rfl]
              have hx' : H' p = some (.lst xs) := ey.keep p _ hx np
              have tx' : g.TlA α2 H' acc xs := TlA.ext ey a2 tx
              refine ⟨α2, S2, ρ', ay, r', wp_mono (wp_bind w4) (fun y S3 h3 α3 H3 e3 a3 => ?_) fun _ _ z => z.elim⟩
              split at h3
              · rename_i ds
                split at h3
                · rename_i hl2
                  refine ⟨ds, rfl, fun J1 wk2 => ?_⟩
                  refine inner_of (α1 := α1) (H1 := H1) hp (e2.trans (ey.trans e3)) a3 (e3.notin hx' np) (e3.keep p _ hx' np) (TlA.ext e3 ay tx') (r'.ext e3 ay) wk2 hl2 h3 fun α4 H4 S4 acc4 xs4 e4 a4 np4 hx4 tx4 kn => ?_
                  exact ⟨α4, S4, acc4, xs4, e4, a4, np4, hx4, tx4, kn⟩
                · exact h3.elim
              · exact h3.elim
    · simp only [hl, if_false] at h1
      exact h1.elim
theorem l_lc2 {elt tg iter tg1 iter1 : Expr} {scope : Scope} {it : Wi} {one one2 : Bool} {ie2 ie : E} (own own2 : List (Str × Nat)) {CX : CXT} {k : Nat} (G : Gd X g W CX cal k) (hi : PI X tg iter (rI g W one (evI cal it))) (ok : blkC X.N X.env.scope scope (own ++ own2) = true)
    (hg : ∀ (s : Shared) (H : Hp) (C : Addr) (cl : List (Str × Addr)) (fp : List Addr), PG (X.blk s H scope (compEnvC scope cl C X.env) fp) tg (rG g (own.map (·.2)) one))
    (hi1 : ∀ (s : Shared) (H : Hp) (C : Addr) (cl : List (Str × Addr)) (fp : List Addr), Gd (X.blk s H scope (compEnvC scope cl C X.env) fp) g W0 CX cal k → PE (X.blk s H scope (compEnvC scope cl C X.env) fp) iter1 (rE g W0 (evE cal ie2)))
    (hg1 : ∀ (s : Shared) (H : Hp) (C : Addr) (cl : List (Str × Addr)) (fp : List Addr), PG (X.blk s H scope (compEnvC scope cl C X.env) fp) tg1 (rG g (own2.map (·.2)) one2))
    (he : ∀ (s : Shared) (H : Hp) (C : Addr) (cl : List (Str × Addr)) (fp : List Addr), Gd (X.blk s H scope (compEnvC scope cl C X.env) fp) g W0 CX cal k → PE (X.blk s H scope (compEnvC scope cl C X.env) fp) elt (rE g W0 (evE cal ie)))
    (hs : ∀ x, foldedSetIterable iter X.env x = pure x := by intro _; rfl) (hs1 : ∀ env x, foldedSetIterable iter1 env x = pure x := by intro _ _; rfl) : PE X (.ListComp elt [⟨tg, iter, [], 0⟩, ⟨tg1, iter1, [], 0⟩] scope pos) (rLn g W (evL cal (.lc2 it (own.map (·.2)) one ie2 (own2.map (·.2)) one2 ie))) :=
  pe_imp (pe_lc2 (vs1 := own2.map (·.2)) G.calm G.nd hi (blkOk_by ok) (fun i hi => by rw [List.map_append]; exact List.mem_append_right _ hi) hg (fun _ _ _ _ _ => pts_nil)
    (fun s H C cl fp => i_tupK (G.blk s H scope _ fp).K (hi1 s H C cl fp (G.blk s H scope _ fp))) hg1 (fun _ _ _ _ _ => pts_nil) (fun s H C cl fp => he s H C cl fp (G.blk s H scope _ fp)) hs hs1) fun _ _ _ q => by
      rw [List.map_append]
      exact lc2_of q
theorem s_asgLc2 (i : Nat) {y : Str} {py : Pos} {elt tg iter tg1 iter1 : Expr} {scope : Scope} {cpos : Pos} {it : Wi} {one one2 : Bool} {ie2 ie : E} (own own2 : List (Str × Nat)) {CX : CXT} {k : Nat} (G : Gd X g W CX cal k) (hi : PI X tg iter (rI g W one (evI cal it))) (ok : blkC X.N X.env.scope scope (own ++ own2) = true)
    (hg : ∀ (s : Shared) (H : Hp) (C : Addr) (cl : List (Str × Addr)) (fp : List Addr), PG (X.blk s H scope (compEnvC scope cl C X.env) fp) tg (rG g (own.map (·.2)) one))
    (hi1 : ∀ (s : Shared) (H : Hp) (C : Addr) (cl : List (Str × Addr)) (fp : List Addr), Gd (X.blk s H scope (compEnvC scope cl C X.env) fp) g W0 CX cal k → PE (X.blk s H scope (compEnvC scope cl C X.env) fp) iter1 (rE g W0 (evE cal ie2)))
    (hg1 : ∀ (s : Shared) (H : Hp) (C : Addr) (cl : List (Str × Addr)) (fp : List Addr), PG (X.blk s H scope (compEnvC scope cl C X.env) fp) tg1 (rG g (own2.map (·.2)) one2))
    (he : ∀ (s : Shared) (H : Hp) (C : Addr) (cl : List (Str × Addr)) (fp : List Addr), Gd (X.blk s H scope (compEnvC scope cl C X.env) fp) g W0 CX cal k → PE (X.blk s H scope (compEnvC scope cl C X.env) fp) elt (rE g W0 (evE cal ie)))
    (hsw : swapsWith (.ListComp elt [⟨tg, iter, [], 0⟩, ⟨tg1, iter1, [], 0⟩] scope cpos) (some (.Name y py)) pos.line X.env = pure true) (hy : X.N[i]? = some y := by rfl) (hyl : X.env.scope.names.lookup y = some .local := by rfl)
    (hs : ∀ x, foldedSetIterable iter X.env x = pure x := by intro _; rfl) (hs1 : ∀ env x, foldedSetIterable iter1 env x = pure x := by intro _ _; rfl) :
    PS X (.Assign [.Name y py] (.ListComp elt [⟨tg, iter, [], 0⟩, ⟨tg1, iter1, [], 0⟩] scope cpos) pos) (rS g W (exS cal (.asg i (.lst (.lc2 it (own.map (·.2)) one ie2 (own2.map (·.2)) one2 ie))))) :=
  ps_imp (ps_setLc2 (vs1 := own2.map (·.2)) G.calm G.nd hy hyl hsw hi (blkOk_by ok) (fun i hi => by rw [List.map_append]; exact List.mem_append_right _ hi) hg (fun _ _ _ _ _ => pts_nil)
    (fun s H C cl fp => i_tupK (G.blk s H scope _ fp).K (hi1 s H C cl fp (G.blk s H scope _ fp))) hg1 (fun _ _ _ _ _ => pts_nil) (fun s H C cl fp => he s H C cl fp (G.blk s H scope _ fp)) hs hs1) fun D σ H h => by
    rw [List.map_append]
    refine lc2_of (it := it) (ie := ie) ?_
    obtain ⟨α, S, ρ, a, r, w⟩ := h
    have w : wp (M.bind (M.bind (evL cal (.lc2 it (own.map (·.2)) one ie2 (own2.map (·.2)) one2 ie) ρ) fun ds => alloc (.lst ds)) (fun d => M.pure (Ctl.next, ρ.set i (some d))) S) _ _ := w
    refine ⟨α, S, ρ, a, r, wp_mono (wp_bind (wp_bind w)) (fun ds S1 h1 α1 H1 e1 a1 p xs hp hn hx tx => ?_) fun x S' z cls dx α' H' e a' t => z cls dx α' H' σ e a' t⟩
    unfold alloc at h1
    by_cases hb : rbO S1.length (.lst ds) = true
    · simp only [hb, if_true] at h1
      obtain ⟨a2, pre⟩ := At.take_in a1 hn (o := .lst ds) ⟨xs, hx, tx⟩ hb
      have e2 : Ext α (α1 ++ [p]) H H1 := ⟨fun i b h => pre i b (e1.pre i b h), e1.keep, fun b hb => by
        rcases List.mem_append.mp hb with z | z
        · exact e1.new b z
        · rw [List.mem_singleton] at z
          rw [z]
          exact .inr hp⟩
      refine h1 (α1 ++ [p]) H1 (σ.set i (some (.ref p))) e2 a2 ((r.ext e2 a).set ⟨p, ?_, rfl⟩)
      rw [← a1.len, List.getElem?_append_right (Nat.le_refl _)]
      simp
    · simp only [hb] at h1
      exact h1.elim
end
end Ir
set_option Elab.async false
set_option maxRecDepth 100000
set_option maxHeartbeats 4000001
/-! What the top has written, told by one run; the table of the defs by levels; the law. -/
namespace Ir
open PySem L2 PySem.Spec PyProof.Rows
/-- a statement that nothing looks through -/
structure Ok (p : Prop) : Prop where
  h : p
/-- a written value is this plain data -/
def chk (K : PySem.W.Frag) : Nat → PyData → Value → Bool
  | _, .none, .none => true
  | _, .bool a, .bool b => decide (a = b)
  | _, .int i, .int j _ => decide (i = j)
  | _, .str x, .str y _ => decide (x = y)
  | n + 1, .tuple ds, .ref a => (match K.lookup a with
    | some ⟨.type c, none, .seq its _, _⟩ => decide (c = "tuple") && (decide (its.size ≤ 1000) && (decide (ds.length = its.toList.length) && (ds.zip its.toList).all fun p => chk K n p.1 p.2))
    | _ => false)
  | _, _, _ => false
theorem zip_chk {K : PySem.W.Frag} {n : Nat} (h : ∀ d u, chk K n d u = true → ∃ v, RelV v u ∧ ∀ H, Tp K H d v) : ∀ {ds : List PyData} {us : List Value}, ds.length = us.length → ((ds.zip us).all fun p => chk K n p.1 p.2) = true → ∃ vs, Vals vs us ∧ ∀ H, TpA K H ds vs
  | [], [], _, _ => ⟨[], .nil, fun _ => .nil⟩
  | d :: ds, u :: us, hl, ha => by
    rw [List.zip_cons_cons, List.all_cons, Bool.and_eq_true] at ha
    obtain ⟨v, r, t⟩ := h _ _ ha.1
    obtain ⟨vs, r2, t2⟩ := zip_chk h (by simpa using hl) ha.2
    exact ⟨v :: vs, .cons r r2, fun H => .cons (t H) (t2 H)⟩
theorem chk_ok {K : PySem.W.Frag} : ∀ (n : Nat) (d : PyData) (u : Value), chk K n d u = true → ∃ v, RelV v u ∧ ∀ H, Tp K H d v := by
  intro n
  induction n with
  | zero =>
    intro d u h
    unfold chk at h
    split at h
    · exact ⟨.non, rfl, fun _ => .non⟩
    · exact ⟨.bl _, by rw [of_decide_eq_true h]; rfl, fun _ => .bl _⟩
    · exact ⟨.int _, ⟨_, by rw [of_decide_eq_true h]⟩, fun _ => .int _⟩
    · exact ⟨.str _, ⟨_, by rw [of_decide_eq_true h]⟩, fun _ => .str _⟩
    · rename_i e; cases e
    · cases h
  | succ n ih =>
    intro d u h
    unfold chk at h
    split at h
    · exact ⟨.non, rfl, fun _ => .non⟩
    · exact ⟨.bl _, by rw [of_decide_eq_true h]; rfl, fun _ => .bl _⟩
    · exact ⟨.int _, ⟨_, by rw [of_decide_eq_true h]⟩, fun _ => .int _⟩
    · exact ⟨.str _, ⟨_, by rw [of_decide_eq_true h]⟩, fun _ => .str _⟩
    · rename_i n' ds a e
      cases e
      split at h
      · rename_i c its m sl hl
        simp only [Bool.and_eq_true, decide_eq_true_eq] at h
        obtain ⟨h1, h2, h3, h4⟩ := h
        subst h1
        obtain ⟨vs, r, t⟩ := zip_chk ih h3 h4
        exact ⟨.ref a, rfl, fun H => .tup (.inr ⟨_, its, m, hl, rfl, rfl, rfl, by rw [sizeLine_eq]; omega, r⟩) (t H)⟩
      · cases h
    · cases h
def constB (K : PySem.W.Frag) (q : Str × PyData) : Bool := match PySem.W.nsIn K mainGlobals q.1 with
  | some (some u) => chk K 5 q.2 u
  | _ => false
def dicB (K : PySem.W.Frag) (x : Str) (kvs : List (Str × PyData)) : Bool := match K.lookup (He.ga K x) with
  | some ⟨_, _, .dict es _, _⟩ => decide (es.toList.length = kvs.length) && ((es.toList.zip kvs).all fun p => (match p.1.key with
    | .str y _ => decide (y = p.2.1)
    | _ => false) && chk K 5 p.2.2 p.1.val)
  | _ => false
section
variable {K : PySem.W.Frag} {h : Heap} {mg : Str → Option Value} {w : World} {ph : Nat → Option Addr}
abbrev gOf (K : PySem.W.Frag) (ph : Nat → Option Addr) : Gc := ⟨K, ph, fun _ _ _ _ => False⟩
theorem const_ok (X : K.In h) (G : h.Ns mainGlobals mg) {x : Str} {d : PyData} (c : constB K (x, d) = true) : Gv (gOf K ph) mg x (.p d) := by
  unfold constB at c
  split at c
  · rename_i u e
    obtain ⟨v, r, t⟩ := chk_ok _ _ _ c
    exact ⟨v, u, PySem.W.mg_of X G e, r, fun _ H => t H⟩
  · cases c
theorem dic_zip : ∀ {es : List DictEntry} {kvs : List (Str × PyData)}, es.length = kvs.length → ((es.zip kvs).all fun p => (match p.1.key with
    | .str y _ => decide (y = p.2.1)
    | _ => false) && chk K 5 p.2.2 p.1.val) = true → Paired (fun (e : DictEntry) (p : Str × PyData) => (∃ t, e.key = .str p.1 t) ∧ ∃ v, RelV v e.val ∧ ∀ H, Tp K H p.2 v) es kvs
  | [], [], _, _ => .nil
  | e :: es, q :: kvs, hl, ha => by
    rw [List.zip_cons_cons, List.all_cons, Bool.and_eq_true, Bool.and_eq_true] at ha
    obtain ⟨⟨h1, h2⟩, h3⟩ := ha
    refine .cons ⟨?_, chk_ok _ _ _ h2⟩ (dic_zip (by simpa using hl) h3)
    dsimp only at h1
    split at h1
    · rename_i y t hy
      exact ⟨t, by rw [hy, of_decide_eq_true h1]⟩
    · cases h1
theorem wd_ok {x : Str} {kvs : List (Str × PyData)} (hm : mg x = some (.ref (He.ga K x))) (hk : ∃ es n, KDict K w (He.ga K x) es n) (c : dicB K x kvs = true) : Wd (gOf K ph) w mg x kvs := by
  obtain ⟨es, n, q⟩ := hk
  unfold dicB at c
  rw [q.at_] at c
  simp only [Bool.and_eq_true, decide_eq_true_eq] at c
  exact ⟨_, es, n, hm, q.at_, q.lit, q.low, dic_zip c.1 c.2⟩
end
theorem fun_of {K : PySem.W.Frag} {x : Str} {st : Stmt} {f : Addr} {fd : FuncData} (F : FunD K x x (defArgs st) (defBody st) (defScope st) [] [] f fd) : Fun K x x st f fd := by
  obtain ⟨oc, od, dV, kV, doc, pm, an, cdv, ct, osl, e, l, c, hD, _⟩ := F.ex
  rcases hD with ⟨_, rfl⟩ | ⟨q, _⟩
  · exact ⟨⟨oc, od, kV, doc, pm, an, cdv, ct, osl, e, l, c⟩, F.kp⟩
  · exact absurd rfl q
def ddOf (x : Str) (st : Stmt) : He.DefD := ⟨(x, none), x, x, defArgs st, defBody st, defScope st, [], []⟩
section
variable {P : Program} {w : World} {g : Gc} {mg : Str → Option Value} {base : Heap} {a : Nat → Addr} {fs : Nat → Option Fn}
def Row (P : Program) (w : World) (g : Gc) (mg : Str → Option Value) (base : Heap) (f : Addr) (fn : Fn) : Prop := ∃ fd ps, (∀ cal k, Tb P w g mg base cal k → FnOk P w g.K mg base CX0 (k + 1) f fd ps (spI g (callF cal fn))) ∧ PySem.W.keepIn g.K (.ref f) = true ∧ Binds g.K fd ps []
theorem row_mk {x : Str} {st : Stmt} {f : Addr} {fd : FuncData} {N ps : List Str} {fn : Fn} (F : FunD g.K x x (defArgs st) (defBody st) (defScope st) [] [] f fd) (S : FnScope N ps (defScope st)) (har : fn.ar = ps.length) (hsz : fn.sz = N.length)
    (hbi : ∀ (kV doc pm : Value) (an : Option Addr) (cdv ct : Value) (us : List Value), us.length = ps.length → bindArgs (PySem.W.fnOf x x (defArgs st) (defBody st) (defScope st) .none kV doc pm an cdv ct) ⟨us, []⟩ = pure (ps.zip us))
    (hb : ∀ (cal : Nat → List D → M D) (k : Nat) (cdv : Value) (A : Around) (outer : List Env) (s : Shared) (H : Hp) (E : XK), Gd (cxOf CX0 P w g.K mg base N x (defScope st) f cdv A outer s H E).nox g W0 CX0 cal k →
      PSs (cxOf CX0 P w g.K mg base N x (defScope st) f cdv A outer s H E).nox (defBody st) (rS g W0 (exSs cal fn.body))) : Row P w g mg base f fn :=
  ⟨fd, ps, fun cal k tb => fn_ok (fun_of F) S tb har hsz (hb cal k), F.kp, F.bindsN hbi⟩
theorem cal_succ {i k : Nat} {fn : Fn} (h : fs i = some fn) : calK fs (k + 1) i = callF (calK fs k) fn := by
  funext ds
  simp [calK, h]
theorem tb_all (h : ∀ i f, g.ph i = some f → ∃ fn, fs i = some fn ∧ Row P w g mg base f fn) : ∀ k, Tb P w g mg base (calK fs k) k
  | 0 => tb_zero fun i f hi => by
    obtain ⟨fn, _, fd, ps, _, h2, h3⟩ := h i f hi
    exact ⟨fd, ps, fun vs H Q E z => by
      obtain ⟨α, S, ds, _, _, q⟩ := z
      exact q.elim, h2, h3⟩
  | k + 1 => fun i f hi => by
    obtain ⟨fn, h0, fd, ps, h1, h2, h3⟩ := h i f hi
    rw [cal_succ h0]
    exact ⟨fd, ps, h1 _ _ (tb_all h k), h2, h3⟩
/-- the law's promise -/
def spLaw (K : PySem.W.Frag) (n : Nat) : Sp := fun vs H Q _ => ∃ (a : Addr) (ns : List Int), vs = [.ref a] ∧ Only H ∧ SqL K H a (ns.map V.int) ∧ ns.length ≤ n ∧ ∀ H', Q (.bl true) H'
theorem ints_tpa {K : PySem.W.Frag} {H : Hp} : ∀ ns : List Int, TpA K H (ns.map .int) (ns.map V.int)
  | [] => .nil
  | _ :: r => .cons (.int _) (ints_tpa r)
theorem law_of {m : List D → M D} {n k : Nat} {f : Addr} {fd : FuncData} {ps : List Str} (F : FnOk P w g.K mg base CX0 k f fd ps (spI g m))
    (h : ∀ ns : List Int, ns.length ≤ n → wp (m [.p (.list (ns.map .int))] []) (fun d _ => d = .p (.bool true)) (fun _ _ => False)) : FnOk P w g.K mg base CX0 k f fd ps (spLaw g.K n) :=
  F.imp fun vs H Q E z => by
    obtain ⟨b, ns, rfl, hO, hS, hl, q⟩ := z
    refine ⟨[], [], [.p (.list (ns.map .int))], ⟨rfl, List.nodup_nil, fun i o b h => by simp at h, fun i o h => by simp at h⟩, .cons (.lst (Lf.of hO hS) (ints_tpa ns)) .nil, wp_mono (h ns hl) (fun d S e α' H' _ _ v tv => ?_) fun _ _ z => z.elim⟩
    subst e
    cases tv
    exact q H'
end
end Ir
set_option Elab.async false
set_option linter.all false
set_option maxRecDepth 100000
set_option maxHeartbeats 4000001
/-! Walking runs of the small language, for every law: ir2 goes on by one construct, nxt to the next statement. -/
namespace Ir
open PySem
/-! how runs are put together -/
theorem ss_step {cal : Nat → List D → M D} {s : St} {r : Ss} {ρ ρ' : Sl} {S S' : Sto} {o : Out (Ctl × Sl)} (h : exS cal s ρ S = .val (.next, ρ') S') (h2 : exSs cal r ρ' S' = o) : exSs cal (.cons s r) ρ S = o := by
  show M.bind (exS cal s ρ) _ S = o
  unfold M.bind
  rw [h]
  exact h2
theorem ss_end {cal : Nat → List D → M D} {s : St} {r : Ss} {ρ ρ' : Sl} {S S' : Sto} {d : D} (h : exS cal s ρ S = .val (.ret d, ρ') S') : exSs cal (.cons s r) ρ S = .val (.ret d, ρ') S' := by
  show M.bind (exS cal s ρ) _ S = _
  unfold M.bind
  rw [h]
  rfl
theorem call_mk {cal : Nat → List D → M D} {f : Fn} {ds : List D} {S S' : Sto} {ρ' : Sl} {d : PyData} (h : ds.length = f.ar) (e : exSs cal f.body (ds.map some ++ List.replicate (f.sz - f.ar) none) S = .val (.ret (.p d), ρ') S') : callF cal f ds S = .val (.p d) (S'.take S.length) := by
  unfold callF
  rw [if_pos h, e]
  rfl
theorem rb_plain (n : Nat) : ∀ ds : List PyData, (ds.map D.p).all (rb n) = true
  | [] => rfl
  | d :: ds => by rw [List.map_cons, List.all_cons, rb_plain n ds]; rfl
theorem plain_of : ∀ ds : List PyData, plainOf (ds.map D.p) = some ds
  | [] => rfl
  | d :: ds => by
    show (plainOf (ds.map D.p)).map (d :: ·) = some (d :: ds)
    rw [plain_of ds]
    rfl
theorem alloc_plain (ds : List PyData) (S : Sto) : alloc (.lst (ds.map D.p)) S = .val (.ref S.length) (S ++ [.lst (ds.map D.p)]) := by
  unfold alloc
  rw [if_pos (show rbO S.length (.lst (ds.map D.p)) = true from rb_plain _ ds)]
/-- a comprehension over a fixed row of values, by what each turn keeps -/
theorem lc_inv {ds : List D} {body : D → M D} (I : Nat → Sto → Prop) (R : D → D → Prop) (step : ∀ i d S, ds[i]? = some d → I i S → ∃ e S', body d S = .val e S' ∧ R d e ∧ I (i + 1) S') :
    ∀ (n i : Nat) (acc : List D) (S : Sto), i + n = ds.length → I i S → ∃ es S', lcGo (.fix ds) body n i acc S = .val (acc ++ es) S' ∧ Paired R (ds.drop i) es ∧ I ds.length S'
  | 0, i, acc, S, h, hI => by
    have e : i = ds.length := by omega
    subst e
    refine ⟨[], S, ?_, ?_, hI⟩
    · show (match (Src.fix ds).at ds.length S with
        | some none => Out.val acc S
        | _ => .bad) = _
      simp [Src.at]
    · rw [List.drop_length]; exact .nil
  | n + 1, i, acc, S, h, hI => by
    have hi : i < ds.length := by omega
    obtain ⟨e, S1, h1, h2, h3⟩ := step i ds[i] S (List.getElem?_eq_getElem hi) hI
    obtain ⟨es, S2, h4, h5, h6⟩ := lc_inv I R step n (i + 1) (acc ++ [e]) S1 (by omega) h3
    refine ⟨e :: es, S2, ?_, ?_, h6⟩
    · show (match (Src.fix ds).at i S with
        | some none => Out.val acc S
        | some (some d) => M.bind (body d) (fun e => lcGo (.fix ds) body n (i + 1) (acc ++ [e])) S
        | none => .bad) = _
      have ea : (Src.fix ds).at i S = some (some ds[i]) := by simp [Src.at, List.getElem?_eq_getElem hi]
      rw [ea]
      show M.bind (body ds[i]) _ S = _
      unfold M.bind
      rw [h1]
      show lcGo (.fix ds) body n (i + 1) (acc ++ [e]) S1 = _
      rw [h4, List.append_assoc]
      rfl
    · rw [List.drop_eq_getElem_cons hi]
      exact .cons h2 h5
end Ir
namespace Ir
open PySem
/-! walking a body from outside in -/
section
variable {cal : Nat → List D → M D} {ρ : Sl} {S : Sto} {ok : D → Sto → Prop} {okL : List D → Sto → Prop} {okS : Ctl × Sl → Sto → Prop} {okI : Src → Sto → Prop} {ex : Ex → Sto → Prop}
theorem wpB {α β : Type} {m : M α} {f : α → M β} {S : Sto} {ok : β → Sto → Prop} {ex : Ex → Sto → Prop} (h : wp (m S) (fun a S' => wp (f a S') ok ex) ex) : wp (M.bind m f S) ok ex := by
  unfold M.bind
  cases e : m S <;> rw [e] at h <;> exact h
theorem wpO {α : Type} {o : Option α} {a : α} {S : Sto} {ok : α → Sto → Prop} {ex : Ex → Sto → Prop} (h : o = some a) (k : ok a S) : wp (M.opt o S) ok ex := by rw [h]; exact k
theorem r_var {i : Nat} (h : ∃ d, ρ[i]? = some (some d) ∧ ok d S) : wp (evE cal (.var i) ρ S) ok ex := by
  obtain ⟨d, h, k⟩ := h
  unfold evE
  rw [h]
  exact k
theorem r_cst {d : D} (k : ok d S) : wp (evE cal (.cst d) ρ S) ok ex := k
theorem r_bin {o : BOp} {a b : E} (h : wp (evE cal a ρ S) (fun x S1 => wp (evE cal b ρ S1) (fun y S2 => ∃ z, bop o x y = some z ∧ ok z S2) ex) ex) : wp (evE cal (.bin o a b) ρ S) ok ex :=
  wpB (wp_mono h (fun x S1 h => wpB (wp_mono h (fun y S2 ⟨z, e, k⟩ => wpO e k) fun _ _ z => z)) fun _ _ z => z)
theorem r_cmp {o : COp} {a b : E} (h : wp (evE cal a ρ S) (fun x S1 => wp (evE cal b ρ S1) (fun y S2 => ∃ z, cop S2 o x y = some z ∧ ok (.p (.bool z)) S2) ex) ex) : wp (evE cal (.cmp o a b) ρ S) ok ex :=
  wpB (wp_mono h (fun x S1 h => wpB (wp_mono h (fun y S2 ⟨z, e, k⟩ => wpO (by rw [e]; rfl) k) fun _ _ z => z)) fun _ _ z => z)
theorem r_chain {o o' : COp} {a b c : E} (h : wp (evE cal a ρ S) (fun x S1 => wp (evE cal b ρ S1) (fun y S2 => ∃ z, cop S2 o x y = some z ∧ (if z = true then wp (evE cal c ρ S2) (fun w S3 => ∃ z, cop S3 o' y w = some z ∧ ok (.p (.bool z)) S3) ex else ok (.p (.bool false)) S2)) ex) ex) : wp (evE cal (.chain o o' a b c) ρ S) ok ex :=
  wpB (wp_mono h (fun x S1 h => wpB (wp_mono h (fun y S2 ⟨z, e, k⟩ => wpB (wpO e (by
    cases z with
    | true => exact wpB (wp_mono k (fun w S3 ⟨z, e, k⟩ => wpO (by rw [e]; rfl) k) fun _ _ z => z)
    | false => exact k))) fun _ _ z => z)) fun _ _ z => z)
theorem r_and {a b : E} (h : wp (evE cal a ρ S) (fun x S1 => ∃ z, x = .p (.bool z) ∧ (if z = true then wp (evE cal b ρ S1) ok ex else ok (.p (.bool false)) S1)) ex) : wp (evE cal (.and a b) ρ S) ok ex :=
  wpB (wp_mono h (fun x S1 ⟨z, e, k⟩ => wpB (wpO (a := z) (by rw [e]; rfl) (by cases z <;> exact k))) fun _ _ z => z)
theorem r_or {a b : E} (h : wp (evE cal a ρ S) (fun x S1 => ∃ z, x = .p (.bool z) ∧ (if z = true then ok (.p (.bool true)) S1 else wp (evE cal b ρ S1) ok ex)) ex) : wp (evE cal (.or a b) ρ S) ok ex :=
  wpB (wp_mono h (fun x S1 ⟨z, e, k⟩ => wpB (wpO (a := z) (by rw [e]; rfl) (by cases z <;> exact k))) fun _ _ z => z)
theorem r_not {a : E} (h : wp (evE cal a ρ S) (fun x S1 => ∃ z, x = .p (.bool z) ∧ ok (.p (.bool !z)) S1) ex) : wp (evE cal (.not a) ρ S) ok ex :=
  wpB (wp_mono h (fun x S1 ⟨z, e, k⟩ => wpB (wpO (a := z) (by rw [e]; rfl) k)) fun _ _ z => z)
theorem r_idx {a b : E} (h : wp (evE cal a ρ S) (fun x S1 => wp (evE cal b ρ S1) (fun y S2 => ∃ z, getI S2 x y = some z ∧ ok z S2) ex) ex) : wp (evE cal (.idx a b) ρ S) ok ex :=
  wpB (wp_mono h (fun x S1 h => wpB (wp_mono h (fun y S2 ⟨z, e, k⟩ => wpO e k) fun _ _ z => z)) fun _ _ z => z)
theorem r_idxL {l : L} {b : E} (h : wp (evL cal l ρ S) (fun ds S1 => wp (evE cal b ρ S1) (fun y S2 => ∃ z, (asInt y).bind (fun i => L2.atI ds i) = some z ∧ ok z S2) ex) ex) : wp (evE cal (.idxL l b) ρ S) ok ex :=
  wpB (wp_mono h (fun x S1 h => wpB (wp_mono h (fun y S2 ⟨z, e, k⟩ => wpO e k) fun _ _ z => z)) fun _ _ z => z)
theorem r_slice {a : E} {lo hi : Option Int} (h : wp (evE cal a ρ S) (fun x S1 => ∃ z, sliceD x lo hi = some z ∧ ok z S1) ex) : wp (evE cal (.slice a lo hi) ρ S) ok ex :=
  wpB (wp_mono h (fun x S1 ⟨z, e, k⟩ => wpO e k) fun _ _ z => z)
theorem r_len {a : E} (h : wp (evE cal a ρ S) (fun x S1 => ∃ z, lenD S1 x = some z ∧ ok (.p (.int z)) S1) ex) : wp (evE cal (.len a) ρ S) ok ex :=
  wpB (wp_mono h (fun x S1 ⟨z, e, k⟩ => wpO (by rw [e]; rfl) k) fun _ _ z => z)
theorem r_isi {a : E} {t : Ty} (h : wp (evE cal a ρ S) (fun x S1 => ∃ z, isiD x t = some z ∧ ok (.p (.bool z)) S1) ex) : wp (evE cal (.isi a t) ρ S) ok ex :=
  wpB (wp_mono h (fun x S1 ⟨z, e, k⟩ => wpO (by rw [e]; rfl) k) fun _ _ z => z)
theorem r_toInt {a : E} (h : wp (evE cal a ρ S) (fun x S1 => ∃ z, intOf x = some z ∧ ok (.p (.int z)) S1) ex) : wp (evE cal (.toInt a) ρ S) ok ex :=
  wpB (wp_mono h (fun x S1 ⟨z, e, k⟩ => wpO (by rw [e]; rfl) k) fun _ _ z => z)
theorem r_all {l : L} (h : wp (evL cal l ρ S) (fun ds S1 => ∃ bs, boolsOf ds = some bs ∧ ok (.p (.bool (bs.all id))) S1) ex) : wp (evE cal (.all l) ρ S) ok ex :=
  wpB (wp_mono h (fun x S1 ⟨z, e, k⟩ => wpO (by rw [e]; rfl) k) fun _ _ z => z)
theorem r_tupOf {a : E} (h : wp (evE cal a ρ S) (fun x S1 => ∃ z, tupD S1 x = some z ∧ ok z S1) ex) : wp (evE cal (.tupOf a) ρ S) ok ex :=
  wpB (wp_mono h (fun x S1 ⟨z, e, k⟩ => wpO e k) fun _ _ z => z)
theorem r_wget {kvs : List (Str × PyData)} {a : E} (h : wp (evE cal a ρ S) (fun x S1 => ∃ z, wgetD kvs x = some z ∧ ok z S1) ex) : wp (evE cal (.wget kvs a) ρ S) ok ex :=
  wpB (wp_mono h (fun x S1 ⟨z, e, k⟩ => wpO e k) fun _ _ z => z)
theorem r_dictOf {a : E} (h : wp (evE cal a ρ S) (fun x S1 => ∃ z, dictD x = some z ∧ wp (alloc (.dic z) S1) ok ex) ex) : wp (evE cal (.dictOf a) ρ S) ok ex :=
  wpB (wp_mono h (fun x S1 ⟨z, e, k⟩ => wpB (wpO e k)) fun _ _ z => z)
theorem r_lenset {a : E} (h : wp (evE cal a ρ S) (fun x S1 => ∃ z, lensetD x = some z ∧ ok z S1) ex) : wp (evE cal (.lenset a) ρ S) ok ex :=
  wpB (wp_mono h (fun x S1 ⟨z, e, k⟩ => wpO e k) fun _ _ z => z)
theorem r_call {f : Nat} {as : Es} (h : wp (evEs cal as ρ S) (fun ds S1 => wp (cal f ds S1) ok ex) ex) : wp (evE cal (.call f as) ρ S) ok ex := wpB h
theorem r_callv {i : Nat} {as : Es} (h : ∃ f, ρ[i]? = some (some (.fn f)) ∧ wp (evEs cal as ρ S) (fun ds S1 => wp (cal f ds S1) ok ex) ex) : wp (evE cal (.callv i as) ρ S) ok ex := by
  obtain ⟨f, hv, h⟩ := h
  unfold evE
  rw [hv]
  exact wpB h
theorem r_tup {as : Es} (h : wp (evEs cal as ρ S) (fun ds S1 => ∃ ps, plainOf ds = some ps ∧ ds.length ≤ 1000 ∧ ok (.p (.tuple ps)) S1) ex) : wp (evE cal (.tup as) ρ S) ok ex :=
  wpB (wp_mono h (fun ds S1 ⟨ps, e, hl, k⟩ => wpO (by rw [if_pos (by rw [sizeLine_eq]; omega), e]; rfl) k) fun _ _ z => z)
theorem r_nil (k : okL [] S) : wp (evEs cal .nil ρ S) okL ex := k
theorem r_cons {e : E} {es : Es} (h : wp (evE cal e ρ S) (fun d S1 => wp (evEs cal es ρ S1) (fun ds S2 => okL (d :: ds) S2) ex) ex) : wp (evEs cal (.cons e es) ρ S) okL ex :=
  wpB (wp_mono h (fun d S1 h => wpB (wp_mono h (fun ds S2 k => k) fun _ _ z => z)) fun _ _ z => z)
theorem r_disp {as : Es} (h : wp (evEs cal as ρ S) (fun ds S1 => ds.length ≤ 100000 ∧ okL ds S1) ex) : wp (evL cal (.disp as) ρ S) okL ex :=
  wpB (wp_mono h (fun ds S1 ⟨hl, k⟩ => wpO (if_pos hl) k) fun _ _ z => z)
theorem r_lst {l : L} (h : wp (evL cal l ρ S) (fun ds S1 => wp (alloc (.lst ds) S1) ok ex) ex) : wp (evE cal (.lst l) ρ S) ok ex := wpB h
theorem r_cat {a b : E} (h : wp (evE cal a ρ S) (fun x S1 => wp (evE cal b ρ S1) (fun y S2 => ∃ z, catD S2 x y = some z ∧ okL z S2) ex) ex) : wp (evL cal (.cat a b) ρ S) okL ex :=
  wpB (wp_mono h (fun x S1 h => wpB (wp_mono h (fun y S2 ⟨z, e, k⟩ => wpO e k) fun _ _ z => z)) fun _ _ z => z)
theorem r_of {a : E} (h : wp (evE cal a ρ S) (fun x S1 => ∃ z, ofD S1 x = some z ∧ okL z S1) ex) : wp (evL cal (.of a) ρ S) okL ex :=
  wpB (wp_mono h (fun x S1 ⟨z, e, k⟩ => wpO e k) fun _ _ z => z)
theorem r_eqL {neg : Bool} {a : E} {l : L} (h : wp (evE cal a ρ S) (fun x S1 => wp (evL cal l ρ S1) (fun es S2 => ∃ ds z, lstAt S2 x = some ds ∧ eqLD neg ds es = some z ∧ ok z S2) ex) ex) : wp (evE cal (.eqL neg a l) ρ S) ok ex :=
  wpB (wp_mono h (fun x S1 h => wpB (wp_mono h (fun y S2 ⟨ds, z, e, e2, k⟩ => wpO (by rw [e]; exact e2) k) fun _ _ z => z)) fun _ _ z => z)
theorem r_pop {a b : E} (h : wp (evE cal a ρ S) (fun x S1 => ∃ ds, lstAt S1 x = some ds ∧ wp (evE cal b ρ S1) (fun y S2 => wp (popD x y S2) ok ex) ex) ex) : wp (evE cal (.popAt a b) ρ S) ok ex :=
  wpB (wp_mono h (fun x S1 ⟨ds, e, h⟩ => wpB (wpO e (wpB (wp_mono h (fun y S2 k => k) fun _ _ z => z)))) fun _ _ z => z)
theorem s_asgR {i : Nat} {e : E} (h : wp (evE cal e ρ S) (fun d S1 => okS (.next, ρ.set i (some d)) S1) ex) : wp (exS cal (.asg i e) ρ S) okS ex := wpB (wp_mono h (fun _ _ k => k) fun _ _ z => z)
theorem s_setR {o i v : E} (h : wp (evE cal v ρ S) (fun d S1 => wp (evE cal o ρ S1) (fun x S2 => wp (evE cal i ρ S2) (fun y S3 => wp (setD x y d S3) (fun _ S4 => okS (.next, ρ) S4) ex) ex) ex) ex) : wp (exS cal (.setI o i v) ρ S) okS ex :=
  wpB (wp_mono h (fun d S1 h => wpB (wp_mono h (fun x S2 h => wpB (wp_mono h (fun y S3 h => wpB (wp_mono h (fun _ _ k => k) fun _ _ z => z)) fun _ _ z => z)) fun _ _ z => z)) fun _ _ z => z)
theorem s_retR {e : E} (h : wp (evE cal e ρ S) (fun d S1 => okS (.ret d, ρ) S1) ex) : wp (exS cal (.ret e) ρ S) okS ex := wpB (wp_mono h (fun _ _ k => k) fun _ _ z => z)
theorem s_iteR {t : E} {a b : Ss} (h : wp (evE cal t ρ S) (fun x S1 => ∃ z, x = .p (.bool z) ∧ (if z = true then wp (exSs cal a ρ S1) okS ex else wp (exSs cal b ρ S1) okS ex)) ex) : wp (exS cal (.ite t a b) ρ S) okS ex :=
  wpB (wp_mono h (fun x S1 ⟨z, e, k⟩ => wpB (wpO (a := z) (by rw [e]; rfl) (by cases z <;> exact k))) fun _ _ z => z)
theorem s_unpR {is : List Nat} {e : E} (h : wp (evE cal e ρ S) (fun d S1 => ∃ ρ', tgt is false d ρ = some ρ' ∧ okS (.next, ρ') S1) ex) : wp (exS cal (.unp is e) ρ S) okS ex :=
  wpB (wp_mono h (fun x S1 ⟨z, e, k⟩ => wpB (wpO e k)) fun _ _ z => z)
theorem ss_nilR (k : okS (.next, ρ) S) : wp (exSs cal .nil ρ S) okS ex := k
theorem ss_consR {s : St} {r : Ss} (h : wp (exS cal s ρ S) (fun c S1 => (match c with
    | (.next, ρ') => wp (exSs cal r ρ' S1) okS ex
    | c => okS c S1)) ex) : wp (exSs cal (.cons s r) ρ S) okS ex :=
  wpB (wp_mono h (fun c S1 k => by
    obtain ⟨c, ρ'⟩ := c
    cases c <;> exact k) fun _ _ z => z)
theorem call_wp {f : Fn} {ds : List D} (h : ds.length = f.ar) (e : wp (exSs cal f.body (ds.map some ++ List.replicate (f.sz - f.ar) none) S) (fun c S' => ∃ d, c.1 = .ret (.p d) ∧ ok (.p d) (S'.take S.length)) (fun _ _ => False)) : wp (callF cal f ds S) ok ex := by
  unfold callF
  rw [if_pos h]
  cases q : exSs cal f.body (ds.map some ++ List.replicate (f.sz - f.ar) none) S with
  | val c S' =>
    rw [q] at e
    obtain ⟨d, e1, k⟩ := e
    obtain ⟨c, ρ'⟩ := c
    have e1 : c = .ret (.p d) := e1
    subst e1
    exact k
  | exc x S' => rw [q] at e; exact e.elim
  | bad => rw [q] at e; exact e.elim
end
theorem eq_int (i j : Int) : eqD (.p (.int i)) (.p (.int j)) = some (decide (i = j)) := by
  simp [eqD, sameScal, PyData.eqv]
  rfl
theorem r_setD {j : Nat} {k : Int} {d : D} {S : Sto} {ok : Unit → Sto → Prop} {ex : Ex → Sto → Prop} (h : ∃ ds n, S[j]? = some (.lst ds) ∧ L2.ixN ds.length k = some n ∧ rb j d = true ∧ ok () (S.set j (.lst (ds.set n d)))) : wp (setD (.ref j) (.p (.int k)) d S) ok ex := by
  obtain ⟨ds, n, h, h2, h3, q⟩ := h
  unfold setD
  simp only [h, h2, h3, if_true]
  exact q
theorem r_popD {j : Nat} {S : Sto} {ok : D → Sto → Prop} {ex : Ex → Sto → Prop} (h : ∃ d ds, S[j]? = some (.lst (d :: ds)) ∧ ok d (S.set j (.lst ds))) : wp (popD (.ref j) (.p (.int 0)) S) ok ex := by
  obtain ⟨d, ds, h, q⟩ := h
  unfold popD
  simp only [h, if_true]
  exact q
theorem ifB {z : Bool} {p q : Prop} (h1 : z = true → p) (h2 : z = false → q) : if z = true then p else q := by
  cases z
  · exact h2 rfl
  · exact h1 rfl
theorem ifT {p q : Prop} (h : p) : if true = true then p else q := by rw [if_pos rfl]; exact h
theorem ifF {p q : Prop} (h : q) : if false = true then p else q := by rw [if_neg (by decide)]; exact h


theorem plain_ints : ∀ ms : List Int, plainOf (ms.map fun i => D.p (.int i)) = some (ms.map .int)
  | [] => rfl
  | m :: ms => by
    show (plainOf (ms.map fun i => D.p (.int i))).map (PyData.int m :: ·) = _
    rw [plain_ints ms]
    rfl
theorem cop_eq_int (S : Sto) (i j : Int) : cop S .eq (.p (.int i)) (.p (.int j)) = some (decide (i = j)) := eq_int i j
theorem cop_lt (S : Sto) (i j : Int) : cop S .lt (.p (.int i)) (.p (.int j)) = some (decide (i < j)) := rfl
theorem cop_le (S : Sto) (i j : Int) : cop S .le (.p (.int i)) (.p (.int j)) = some (decide (i ≤ j)) := rfl
theorem cop_gt (S : Sto) (i j : Int) : cop S .gt (.p (.int i)) (.p (.int j)) = some (decide (j < i)) := rfl
theorem cop_ge (S : Sto) (i j : Int) : cop S .ge (.p (.int i)) (.p (.int j)) = some (decide (j ≤ i)) := rfl
theorem bop_add (i j : Int) : bop .add (.p (.int i)) (.p (.int j)) = some (.p (.int (i + j))) := rfl
theorem bop_sub (i j : Int) : bop .sub (.p (.int i)) (.p (.int j)) = some (.p (.int (i - j))) := rfl
theorem bop_mod {i j : Int} (h : 0 < j) : bop .mod (.p (.int i)) (.p (.int j)) = some (.p (.int (i % j))) := if_pos h
theorem bop_mulR {i j : Int} (h : -(2 ^ 64) < j ∧ j < 2 ^ 64) : bop .mul (.p (.int i)) (.p (.int j)) = some (.p (.int (i * j))) := if_pos (.inr h)
theorem bop_mulL {i j : Int} (h : -(2 ^ 64) < i ∧ i < 2 ^ 64) : bop .mul (.p (.int i)) (.p (.int j)) = some (.p (.int (i * j))) := if_pos (.inl h)
theorem bop_pow {i j : Int} (h : 0 ≤ j ∧ j ≤ 1000000 ∧ i.natAbs < 2 ^ 64) : bop .pow (.p (.int i)) (.p (.int j)) = some (.p (.int (i ^ j.toNat))) := if_pos h
theorem bop_fdiv {i j : Int} (h : 0 < j ∧ j.natAbs.log2 < 9000) : bop .fdiv (.p (.int i)) (.p (.int j)) = some (.p (.int (i / j))) := if_pos h
theorem eqL_ints (neg : Bool) : ∀ ms : List Int, eqLD neg (ms.map fun i => D.p (.int i)) [] = some (.p (.bool (if neg then !ms.isEmpty else ms.isEmpty)))
  | [] => by cases neg <;> rfl
  | m :: ms => by
    unfold eqLD
    rw [plain_ints]
    have hs : SeqAt.shaped (.list ((m :: ms).map PyData.int)) = true := by
      exact PySem.W.ke_shaped_ints (m :: ms)
    have he : PyData.eqvAll ((m :: ms).map PyData.int) [] = false := by
      simp [PyData.eqvAll]
    show (if SeqAt.shaped (.list ((m :: ms).map PyData.int)) = true ∧ SeqAt.shaped (.list []) = true then some (D.p (.bool (if neg then !PyData.eqvAll ((m :: ms).map PyData.int) [] else PyData.eqvAll ((m :: ms).map PyData.int) []))) else none) = _
    rw [if_pos ⟨hs, rfl⟩, he]
    cases neg <;> rfl
def Got {α : Type} (o : Option α) (p : α → Prop) : Prop := ∃ z, o = some z ∧ p z
theorem ex_get {S : Sto} {x y : D} {p : D → Prop} (h : Got (getI S x y) p) : ∃ z, getI S x y = some z ∧ p z := h
theorem ex_bool {b : Bool} {p : Bool → Prop} (k : p b) : ∃ z, D.p (.bool b) = D.p (.bool z) ∧ p z := ⟨b, rfl, k⟩
theorem ex_eq {S : Sto} {i j : Int} {p : Bool → Prop} (k : p (decide (i = j))) : ∃ z, cop S .eq (.p (.int i)) (.p (.int j)) = some z ∧ p z := ⟨_, eq_int i j, k⟩
theorem ex_lt {S : Sto} {i j : Int} {p : Bool → Prop} (k : p (decide (i < j))) : ∃ z, cop S .lt (.p (.int i)) (.p (.int j)) = some z ∧ p z := ⟨_, rfl, k⟩
theorem ex_le {S : Sto} {i j : Int} {p : Bool → Prop} (k : p (decide (i ≤ j))) : ∃ z, cop S .le (.p (.int i)) (.p (.int j)) = some z ∧ p z := ⟨_, rfl, k⟩
theorem ex_gt {S : Sto} {i j : Int} {p : Bool → Prop} (k : p (decide (j < i))) : ∃ z, cop S .gt (.p (.int i)) (.p (.int j)) = some z ∧ p z := ⟨_, rfl, k⟩
theorem ex_add {i j : Int} {p : D → Prop} (k : p (.p (.int (i + j)))) : ∃ z, bop .add (.p (.int i)) (.p (.int j)) = some z ∧ p z := ⟨_, rfl, k⟩
theorem ex_sub {i j : Int} {p : D → Prop} (k : p (.p (.int (i - j)))) : ∃ z, bop .sub (.p (.int i)) (.p (.int j)) = some z ∧ p z := ⟨_, rfl, k⟩
theorem ex_mod {i j : Int} {p : D → Prop} (h : 0 < j) (k : p (.p (.int (i % j)))) : ∃ z, bop .mod (.p (.int i)) (.p (.int j)) = some z ∧ p z := ⟨_, bop_mod h, k⟩
theorem ex_mulR {i j : Int} {p : D → Prop} (h : -(2 ^ 64) < j ∧ j < 2 ^ 64) (k : p (.p (.int (i * j)))) : ∃ z, bop .mul (.p (.int i)) (.p (.int j)) = some z ∧ p z := ⟨_, bop_mulR h, k⟩
theorem ex_mulL {i j : Int} {p : D → Prop} (h : -(2 ^ 64) < i ∧ i < 2 ^ 64) (k : p (.p (.int (i * j)))) : ∃ z, bop .mul (.p (.int i)) (.p (.int j)) = some z ∧ p z := ⟨_, bop_mulL h, k⟩
theorem ex_pow {i j : Int} {p : D → Prop} (h : 0 ≤ j ∧ j ≤ 1000000) (h2 : i.natAbs < 2 ^ 64) (k : p (.p (.int (i ^ j.toNat)))) : ∃ z, bop .pow (.p (.int i)) (.p (.int j)) = some z ∧ p z := ⟨_, bop_pow ⟨h.1, h.2, h2⟩, k⟩
theorem ex_fdiv {i j : Int} {p : D → Prop} (h : 0 < j) (h2 : j.natAbs.log2 < 9000) (k : p (.p (.int (i / j)))) : ∃ z, bop .fdiv (.p (.int i)) (.p (.int j)) = some z ∧ p z := ⟨_, bop_fdiv ⟨h, h2⟩, k⟩
theorem ex_len {ds : List D} {p : Prop} (h : ds.length ≤ 100000) (k : p) : ds.length ≤ 100000 ∧ p := ⟨h, k⟩
def GotP (ds : List D) (p : List PyData → Prop) : Prop := ∃ ps, plainOf ds = some ps ∧ ds.length ≤ 1000 ∧ p ps
theorem ex_plain {ds : List D} {p : List PyData → Prop} (h : GotP ds p) : ∃ ps, plainOf ds = some ps ∧ ds.length ≤ 1000 ∧ p ps := h

end Ir
namespace Ir
open PySem
section
variable {cal : Nat → List D → M D} {ρ : Sl} {S : Sto} {okL : List D → Sto → Prop} {ex : Ex → Sto → Prop}
theorem r_lc {it : Wi} {tg : List Nat} {one : Bool} {elt : E} (h : wp (evI cal it ρ S) (fun src S1 => ∃ n, src.size S1 = some n ∧ n ≤ 100000 ∧ wp (lcGo src (fun d => M.calm (match tgt tg one d (wipeD ρ tg) with
        | some ρ' => evE cal elt ρ'
        | none => M.bad)) n 0 [] S1) okL ex) ex) : wp (evL cal (.lc it tg one elt) ρ S) okL ex :=
  wpB (wp_mono h (fun src S1 q => by
    obtain ⟨n, e1, e2, q⟩ := q
    show wp (match src.size S1 with
      | some n => if n ≤ 100000 then lcGo src (fun d => M.calm (match tgt tg one d (wipeD ρ tg) with
        | some ρ' => evE cal elt ρ'
        | none => M.bad)) n 0 [] S1 else Out.bad
      | none => .bad) okL ex
    rw [e1]
    show wp (if n ≤ 100000 then lcGo src (fun d => M.calm (match tgt tg one d (wipeD ρ tg) with
        | some ρ' => evE cal elt ρ'
        | none => M.bad)) n 0 [] S1 else Out.bad) okL ex
    rw [if_pos e2]
    exact q) fun _ _ z => z)
theorem lc_S {src : Src} {body : D → M D} {n i : Nat} {acc : List D} (h : ∃ d, src.at i S = some (some d) ∧ wp (body d S) (fun e S1 => wp (lcGo src body n (i + 1) (acc ++ [e]) S1) okL ex) ex) : wp (lcGo src body (n + 1) i acc S) okL ex := by
  obtain ⟨d, e, h⟩ := h
  show wp ((match src.at i S with
    | some none => Out.val acc S
    | some (some d) => M.bind (body d) (fun e => lcGo src body n (i + 1) (acc ++ [e])) S
    | none => .bad)) okL ex
  rw [e]
  exact wpB h
theorem lc_Z {src : Src} {body : D → M D} {i : Nat} {acc : List D} (h : src.at i S = some none) (k : okL acc S) : wp (lcGo src body 0 i acc S) okL ex := by
  show wp ((match src.at i S with
    | some none => Out.val acc S
    | _ => .bad)) okL ex
  rw [h]
  exact k
theorem wpC {α : Type} {m : M α} {S : Sto} {ok : α → Sto → Prop} {ex : Ex → Sto → Prop} (h : wp (m S) ok (fun _ _ => False)) : wp (M.calm m S) ok ex := by
  unfold M.calm
  cases e : m S with
  | val a S' => rw [e] at h; exact h
  | exc a S' => rw [e] at h; exact h.elim
  | bad => rw [e] at h; exact h.elim
end
end Ir
namespace Ir
open PySem
section
variable {cal : Nat → List D → M D} {ρ : Sl} {S : Sto} {ok : D → Sto → Prop} {okL : List D → Sto → Prop} {okS : Ctl × Sl → Sto → Prop} {okO : Option Int → Sto → Prop} {ex : Ex → Sto → Prop}
theorem r_slx {a : E} {lo hi : Bd} (h : wp (evE cal a ρ S) (fun x S1 => wp (evB cal lo ρ S1) (fun l S2 => wp (evB cal hi ρ S2) (fun u S3 => ∃ z, sliceD x l u = some z ∧ ok z S3) ex) ex) ex) : wp (evE cal (.slx a lo hi) ρ S) ok ex :=
  wpB (wp_mono h (fun x S1 h => wpB (wp_mono h (fun l S2 h => wpB (wp_mono h (fun u S3 ⟨z, e, k⟩ => wpO e k) fun _ _ z => z)) fun _ _ z => z)) fun _ _ z => z)
theorem r_no (k : okO none S) : wp (evB cal .no ρ S) okO ex := k
theorem r_at {e : E} (h : wp (evE cal e ρ S) (fun x S1 => ∃ i, asInt x = some i ∧ okO (some i) S1) ex) : wp (evB cal (.at_ e) ρ S) okO ex :=
  wpB (wp_mono h (fun x S1 ⟨i, e, k⟩ => wpO (by rw [e]; rfl) k) fun _ _ z => z)
theorem r_cut {a : E} {lo hi : Bd} (h : wp (evE cal a ρ S) (fun x S1 => wp (evB cal lo ρ S1) (fun l S2 => wp (evB cal hi ρ S2) (fun u S3 => ∃ z, cutLD S3 x l u = some z ∧ okL z S3) ex) ex) ex) : wp (evL cal (.cut a lo hi) ρ S) okL ex :=
  wpB (wp_mono h (fun x S1 h => wpB (wp_mono h (fun l S2 h => wpB (wp_mono h (fun u S3 ⟨z, e, k⟩ => wpO e k) fun _ _ z => z)) fun _ _ z => z)) fun _ _ z => z)
theorem r_txt {o : TxO} {a : E} (h : wp (evE cal a ρ S) (fun x S1 => ∃ z, txtD o x = some z ∧ ok z S1) ex) : wp (evE cal (.txt o a) ρ S) ok ex :=
  wpB (wp_mono h (fun x S1 ⟨z, e, k⟩ => wpO e k) fun _ _ z => z)
theorem r_strOf {a : E} (h : wp (evE cal a ρ S) (fun x S1 => ∃ z, strOfD x = some z ∧ ok z S1) ex) : wp (evE cal (.strOf a) ρ S) ok ex :=
  wpB (wp_mono h (fun x S1 ⟨z, e, k⟩ => wpO e k) fun _ _ z => z)
theorem r_join {a b : E} (h : wp (evE cal a ρ S) (fun x S1 => ∃ w, strD x = some w ∧ wp (evE cal b ρ S1) (fun y S2 => ∃ z, joinD S2 x y = some z ∧ ok z S2) ex) ex) : wp (evE cal (.join a b) ρ S) ok ex :=
  wpB (wp_mono h (fun x S1 ⟨w, e, h⟩ => wpB (wpO e (wpB (wp_mono h (fun y S2 ⟨z, e, k⟩ => wpO e k) fun _ _ z => z)))) fun _ _ z => z)
theorem r_ext {a b : E} (h : wp (evE cal a ρ S) (fun x S1 => ∃ ds, lstAt S1 x = some ds ∧ wp (evE cal b ρ S1) (fun y S2 => wp (extD x y S2) ok ex) ex) ex) : wp (evE cal (.extend a b) ρ S) ok ex :=
  wpB (wp_mono h (fun x S1 ⟨ds, e, h⟩ => wpB (wpO e (wpB (wp_mono h (fun y S2 k => k) fun _ _ z => z)))) fun _ _ z => z)
theorem r_app {a b : E} (h : wp (evE cal a ρ S) (fun x S1 => ∃ ds, lstAt S1 x = some ds ∧ wp (evE cal b ρ S1) (fun y S2 => wp (appD x y S2) ok ex) ex) ex) : wp (evE cal (.append a b) ρ S) ok ex :=
  wpB (wp_mono h (fun x S1 ⟨ds, e, h⟩ => wpB (wpO e (wpB (wp_mono h (fun y S2 k => k) fun _ _ z => z)))) fun _ _ z => z)
theorem r_dget {a b : E} (h : wp (evE cal a ρ S) (fun x S1 => ∃ kvs, dicAt S1 x = some kvs ∧ wp (evE cal b ρ S1) (fun y S2 => ∃ z, dgetD S2 x y = some z ∧ ok z S2) ex) ex) : wp (evE cal (.dget a b) ρ S) ok ex :=
  wpB (wp_mono h (fun x S1 ⟨ds, e, h⟩ => wpB (wpO e (wpB (wp_mono h (fun y S2 ⟨z, e, k⟩ => wpO e k) fun _ _ z => z)))) fun _ _ z => z)
theorem r_neg {a : E} (h : wp (evE cal a ρ S) (fun x S1 => ∃ i, asInt x = some i ∧ ok (.p (.int (-i))) S1) ex) : wp (evE cal (.neg a) ρ S) ok ex :=
  wpB (wp_mono h (fun x S1 ⟨i, e, k⟩ => wpO (by rw [e]; rfl) k) fun _ _ z => z)
theorem r_any {l : L} (h : wp (evL cal l ρ S) (fun ds S1 => ∃ bs, boolsOf ds = some bs ∧ ok (.p (.bool (bs.any id))) S1) ex) : wp (evE cal (.any l) ρ S) ok ex :=
  wpB (wp_mono h (fun x S1 ⟨z, e, k⟩ => wpO (by rw [e]; rfl) k) fun _ _ z => z)
theorem r_ifx {t a b : E} (h : wp (evE cal t ρ S) (fun x S1 => ∃ z, x = .p (.bool z) ∧ (if z = true then wp (evE cal a ρ S1) ok ex else wp (evE cal b ρ S1) ok ex)) ex) : wp (evE cal (.ifx t a b) ρ S) ok ex :=
  wpB (wp_mono h (fun x S1 ⟨z, e, k⟩ => wpB (wpO (a := z) (by rw [e]; rfl) (by cases z <;> exact k))) fun _ _ z => z)
theorem s_exprR {e : E} (h : wp (evE cal e ρ S) (fun _ S1 => okS (.next, ρ) S1) ex) : wp (exS cal (.expr e) ρ S) okS ex := wpB (wp_mono h (fun _ _ k => k) fun _ _ z => z)
/-- the body of a loop, at one thing -/
def turn (cal : Nat → List D → M D) (tg : List Nat) (one : Bool) (body : Ss) (d : D) (ρ' : Sl) : M (Ctl × Sl) := match tgt tg one d ρ' with
  | some ρ'' => exSs cal body ρ''
  | none => M.bad
theorem s_forR {it : Wi} {tg : List Nat} {one : Bool} {body : Ss} (h : wp (evI cal it ρ S) (fun src S1 => ∃ n, src.size S1 = some n ∧ wp (forGo src (turn cal tg one body) n 0 ρ S1) okS ex) ex) : wp (exS cal (.for_ it tg one body) ρ S) okS ex :=
  wpB (wp_mono h (fun src S1 q => by
    obtain ⟨n, e1, q⟩ := q
    show wp (match src.size S1 with
      | some n => forGo src (turn cal tg one body) n 0 ρ S1
      | none => Out.bad) okS ex
    rw [e1]
    exact q) fun _ _ z => z)
/-- a loop over a fixed row of values, by what each turn keeps -/
theorem for_inv {ds : List D} {body : D → Sl → M (Ctl × Sl)} (I : Nat → Sl → Sto → Prop) (done : ∀ ρ S, I ds.length ρ S → okS (.next, ρ) S)
    (step : ∀ i d ρ S, ds[i]? = some d → I i ρ S → wp (body d ρ S) (fun c S' => match c with
      | (.next, ρ') => I (i + 1) ρ' S'
      | (.cont, ρ') => I (i + 1) ρ' S'
      | (.brk, ρ') => okS (.next, ρ') S'
      | (.ret d, ρ') => okS (.ret d, ρ') S') ex) : ∀ (n i : Nat) (ρ : Sl) (S : Sto), i + n = ds.length → I i ρ S → wp (forGo (.fix ds) body n i ρ S) okS ex
  | 0, i, ρ, S, h, hI => by
    have e : i = ds.length := by omega
    subst e
    show wp (match (Src.fix ds).at ds.length S with
      | some none => Out.val (Ctl.next, ρ) S
      | _ => .bad) okS ex
    have ea : (Src.fix ds).at ds.length S = some none := by simp [Src.at]
    rw [ea]
    exact done ρ S hI
  | n + 1, i, ρ, S, h, hI => by
    have hi : i < ds.length := by omega
    have ea : (Src.fix ds).at i S = some (some ds[i]) := by simp [Src.at, List.getElem?_eq_getElem hi]
    have hs := step i ds[i] ρ S (List.getElem?_eq_getElem hi) hI
    show wp (match (Src.fix ds).at i S with
      | some none => Out.val (Ctl.next, ρ) S
      | some (some d) => M.bind (body d ρ) (fun c => match c with
        | (.next, ρ') => forGo (.fix ds) body n (i + 1) ρ'
        | (.cont, ρ') => forGo (.fix ds) body n (i + 1) ρ'
        | (.brk, ρ') => M.pure (.next, ρ')
        | (.ret d, ρ') => M.pure (.ret d, ρ')) S
      | none => .bad) okS ex
    rw [ea]
    refine wpB (wp_mono hs (fun c S' k => ?_) fun _ _ z => z)
    obtain ⟨c, ρ'⟩ := c
    cases c with
    | next => exact for_inv I done step n (i + 1) ρ' S' (by omega) k
    | cont => exact for_inv I done step n (i + 1) ρ' S' (by omega) k
    | brk => exact k
    | ret d => exact k
end
theorem ex_asInt {i : Int} {p : Int → Prop} (k : p i) : ∃ j, asInt (.p (.int i)) = some j ∧ p j := ⟨i, rfl, k⟩

end Ir
set_option Elab.async false
set_option linter.all false
set_option maxRecDepth 100000
set_option maxHeartbeats 4000001
/-! Runs of the small language by equations: simp rewrites a run from its head on and looks at nothing behind what it does not know. -/
namespace Ir
open PySem
/-- bears what it names, so that simp leaves that as it is -/
def Lz {α : Type} (_ : α) : Type := Unit
def Out.then {α β : Type} (o : Out α) (f : α → Sto → Out β) (_ : Lz f := ()) : Out β := match o with
  | .val a S => f a S
  | .exc e S => .exc e S
  | .bad => .bad
def optA {α : Type} (o : Option α) (S : Sto) : Out α := match o with
  | some a => .val a S
  | none => .bad
def boolA {α : Type} (x : D) (a b : Out α) (_ : Lz a := ()) (_ : Lz b := ()) : Out α := match x with
  | .p (.bool true) => a
  | .p (.bool false) => b
  | _ => .bad
def seqA (o : Out (Ctl × Sl)) (f : Sl → Sto → Out (Ctl × Sl)) (_ : Lz f := ()) : Out (Ctl × Sl) := match o with
  | .val (.next, ρ) S => f ρ S
  | o => o
theorem then_c {α β : Type} {o : Out α} {f g : α → Sto → Out β} (h : ∀ a S, f a S = g a S) : o.then f = o.then g := by
  have e : f = g := funext fun a => funext fun S => h a S
  subst e; rfl
theorem then_val {α β : Type} (a : α) (S : Sto) (f : α → Sto → Out β) : (Out.val a S).then f = f a S := rfl
theorem optA_some {α : Type} (a : α) (S : Sto) : optA (some a) S = .val a S := rfl
theorem boolA_t {α : Type} (a b : Out α) : boolA (.p (.bool true)) a b = a := rfl
theorem boolA_f {α : Type} (a b : Out α) : boolA (.p (.bool false)) a b = b := rfl
theorem seqA_next (ρ : Sl) (S : Sto) (f : Sl → Sto → Out (Ctl × Sl)) : seqA (.val (.next, ρ) S) f = f ρ S := rfl
theorem seqA_ret (d : D) (ρ : Sl) (S : Sto) (f : Sl → Sto → Out (Ctl × Sl)) : seqA (.val (.ret d, ρ) S) f = .val (.ret d, ρ) S := rfl
theorem then_then {α β γ : Type} (o : Out α) (f : α → Sto → Out β) (k : β → Sto → Out γ) : (o.then f).then k = o.then fun a S => (f a S).then k := by cases o <;> rfl
theorem boolA_then {α β : Type} (x : D) (a b : Out α) (f : α → Sto → Out β) : (boolA x a b).then f = boolA x (a.then f) (b.then f) := by
  unfold boolA; split <;> rfl
theorem seqA_then {α : Type} (o : Out α) (g : α → Sto → Out (Ctl × Sl)) (f : Sl → Sto → Out (Ctl × Sl)) : seqA (o.then g) f = o.then fun a S => seqA (g a S) f := by cases o <;> rfl
theorem seqA_boolA (x : D) (a b : Out (Ctl × Sl)) (f : Sl → Sto → Out (Ctl × Sl)) : seqA (boolA x a b) f = boolA x (seqA a f) (seqA b f) := by
  unfold boolA; split <;> rfl
theorem wp_val_ {α : Type} (a : α) (S : Sto) (ok : α → Sto → Prop) (ex : Ex → Sto → Prop) : wp (.val a S) ok ex = ok a S := rfl
theorem wp_then {α β : Type} {o : Out α} {f : α → Sto → Out β} {ok : β → Sto → Prop} {ex : Ex → Sto → Prop} (h : wp o (fun a S' => wp (f a S') ok ex) ex) : wp (o.then f) ok ex := by
  cases o <;> exact h
theorem bind_at {α β : Type} (m : M α) (f : α → M β) (S : Sto) : M.bind m f S = (m S).then f := by
  unfold M.bind Out.then; cases m S <;> rfl
theorem opt_at {α : Type} (o : Option α) (S : Sto) : M.opt o S = optA o S := by cases o <;> rfl
theorem asB {α : Type} (x : D) (a b : M α) (S : Sto) : M.bind (M.opt (asBool x)) (fun k => if k = true then a else b) S = boolA x (a S) (b S) := by
  unfold boolA
  split
  · rfl
  · rfl
  · rename_i h1 h2
    have : asBool x = none := by
      unfold asBool
      split
      · rename_i b; cases b
        · exact absurd rfl h2
        · exact absurd rfl h1
      · rfl
    rw [this]; rfl
section
variable (cal : Nat → List D → M D) (ρ : Sl) (S : Sto)
theorem v_var (i : Nat) : evE cal (.var i) ρ S = optA (match ρ[i]? with | some (some d) => some d | _ => none) S := rfl
theorem v_cst (d : D) : evE cal (.cst d) ρ S = .val d S := rfl
theorem v_bin (o : BOp) (a b : E) : evE cal (.bin o a b) ρ S = (evE cal a ρ S).then fun x S1 => (evE cal b ρ S1).then fun y S2 => optA (bop o x y) S2 := rfl
theorem v_cmp (o : COp) (a b : E) : evE cal (.cmp o a b) ρ S = (evE cal a ρ S).then fun x S1 => (evE cal b ρ S1).then fun y S2 => optA ((cop S2 o x y).map fun k => .p (.bool k)) S2 := rfl
theorem v_chain (o o' : COp) (a b c : E) : evE cal (.chain o o' a b c) ρ S = (evE cal a ρ S).then fun x S1 => (evE cal b ρ S1).then fun y S2 => (optA ((cop S2 o x y).map fun k => D.p (.bool k)) S2).then fun k S3 =>
    boolA k ((evE cal c ρ S3).then fun z S4 => optA ((cop S4 o' y z).map fun k => .p (.bool k)) S4) (.val (.p (.bool false)) S3) := by
  show (evE cal a ρ S).then (fun x S1 => (evE cal b ρ S1).then fun y S2 => M.bind (fun S => M.opt (cop S o x y) S) (fun k => if k = true then M.bind (evE cal c ρ) (fun z => fun S => M.opt ((cop S o' y z).map fun k => D.p (.bool k)) S) else M.pure (.p (.bool false))) S2) = _
  refine then_c fun x S1 => ?_; refine then_c fun y S2 => ?_
  show (M.opt (cop S2 o x y) S2).then (fun k => if k = true then M.bind (evE cal c ρ) (fun z => fun S => M.opt ((cop S o' y z).map fun k => D.p (.bool k)) S) else M.pure (.p (.bool false))) = _
  cases cop S2 o x y with
  | none => rfl
  | some k => cases k <;> rfl
theorem v_and (a b : E) : evE cal (.and a b) ρ S = (evE cal a ρ S).then fun x S1 => boolA x (evE cal b ρ S1) (.val (.p (.bool false)) S1) := by
  refine (show _ = (evE cal a ρ S).then _ from rfl).trans ?_
  refine then_c fun x S1 => ?_
  exact asB _ _ _ _
theorem v_or (a b : E) : evE cal (.or a b) ρ S = (evE cal a ρ S).then fun x S1 => boolA x (.val (.p (.bool true)) S1) (evE cal b ρ S1) := by
  refine (show _ = (evE cal a ρ S).then _ from rfl).trans ?_
  refine then_c fun x S1 => ?_
  exact asB _ _ _ _
theorem v_not (a : E) : evE cal (.not a) ρ S = (evE cal a ρ S).then fun x S1 => boolA x (.val (.p (.bool false)) S1) (.val (.p (.bool true)) S1) := by
  show (evE cal a ρ S).then (fun x S1 => M.bind (M.opt (asBool x)) (fun k => M.pure (D.p (.bool (!k)))) S1) = _
  refine then_c fun x S1 => ?_
  refine Eq.trans ?_ (asB x (M.pure (D.p (.bool false))) (M.pure (D.p (.bool true))) S1)
  show M.bind _ _ S1 = M.bind _ _ S1
  congr; funext k; cases k <;> rfl
theorem v_ifx (t a b : E) : evE cal (.ifx t a b) ρ S = (evE cal t ρ S).then fun x S1 => boolA x (evE cal a ρ S1) (evE cal b ρ S1) := by
  refine (show _ = (evE cal t ρ S).then _ from rfl).trans ?_
  refine then_c fun x S1 => ?_
  exact asB _ _ _ _
theorem v_neg (a : E) : evE cal (.neg a) ρ S = (evE cal a ρ S).then fun x S1 => optA ((asInt x).map fun i => .p (.int (-i))) S1 := rfl
theorem v_call (f : Nat) (as : Es) : evE cal (.call f as) ρ S = (evEs cal as ρ S).then fun ds S1 => cal f ds S1 := rfl
theorem v_tup (as : Es) : evE cal (.tup as) ρ S = (evEs cal as ρ S).then fun ds S1 => optA (if ds.length ≤ sizeLine then (plainOf ds).map fun ps => .p (.tuple ps) else none) S1 := rfl
theorem v_lst (l : L) : evE cal (.lst l) ρ S = (evL cal l ρ S).then fun ds S1 => alloc (.lst ds) S1 := rfl
theorem v_idx (a b : E) : evE cal (.idx a b) ρ S = (evE cal a ρ S).then fun x S1 => (evE cal b ρ S1).then fun y S2 => optA (getI S2 x y) S2 := rfl
theorem v_idxL (l : L) (b : E) : evE cal (.idxL l b) ρ S = (evL cal l ρ S).then fun ds S1 => (evE cal b ρ S1).then fun y S2 => optA ((asInt y).bind fun i => L2.atI ds i) S2 := rfl
theorem v_slice (a : E) (lo hi : Option Int) : evE cal (.slice a lo hi) ρ S = (evE cal a ρ S).then fun x S1 => optA (sliceD x lo hi) S1 := rfl
theorem v_strOf (a : E) : evE cal (.strOf a) ρ S = (evE cal a ρ S).then fun x S1 => optA (strOfD x) S1 := rfl
theorem v_join (a b : E) : evE cal (.join a b) ρ S = (evE cal a ρ S).then fun x S1 => (optA (strD x) S1).then fun _ S1 => (evE cal b ρ S1).then fun y S2 => optA (joinD S2 x y) S2 := rfl
theorem v_extend (a e : E) : evE cal (.extend a e) ρ S = (evE cal a ρ S).then fun x S1 => (optA (lstAt S1 x) S1).then fun _ S1 => (evE cal e ρ S1).then fun y S2 => extD x y S2 := rfl
theorem v_append (a e : E) : evE cal (.append a e) ρ S = (evE cal a ρ S).then fun x S1 => (optA (lstAt S1 x) S1).then fun _ S1 => (evE cal e ρ S1).then fun y S2 => appD x y S2 := rfl
theorem v_len (a : E) : evE cal (.len a) ρ S = (evE cal a ρ S).then fun x S1 => optA ((lenD S1 x).map fun n => .p (.int n)) S1 := rfl
theorem v_isi (a : E) (t : Ty) : evE cal (.isi a t) ρ S = (evE cal a ρ S).then fun x S1 => optA ((isiD x t).map fun k => .p (.bool k)) S1 := rfl
theorem v_toInt (a : E) : evE cal (.toInt a) ρ S = (evE cal a ρ S).then fun x S1 => optA ((intOf x).map fun i => .p (.int i)) S1 := rfl
theorem v_all (l : L) : evE cal (.all l) ρ S = (evL cal l ρ S).then fun ds S1 => optA ((boolsOf ds).map fun bs => .p (.bool (bs.all id))) S1 := rfl
theorem v_tupOf (a : E) : evE cal (.tupOf a) ρ S = (evE cal a ρ S).then fun x S1 => optA (tupD S1 x) S1 := rfl
theorem v_dictOf (a : E) : evE cal (.dictOf a) ρ S = (evE cal a ρ S).then fun x S1 => (optA (dictD x) S1).then fun kvs S1 => alloc (.dic kvs) S1 := rfl
theorem v_dlit (ks : List Str) (as : Es) : evE cal (.dlit ks as) ρ S = (evEs cal as ρ S).then fun ds S1 => (optA (dlitD ks ds) S1).then fun kvs S1 => alloc (.dic kvs) S1 := rfl
theorem v_dget3 (a k z : E) : evE cal (.dget3 a k z) ρ S = (evE cal a ρ S).then fun x S1 => (optA (dicAt S1 x) S1).then fun _ S1 => (evE cal k ρ S1).then fun y S2 => (evE cal z ρ S2).then fun w S3 => optA (dget3D S3 x y w) S3 := rfl
theorem v_eqL (neg : Bool) (a : E) (l : L) : evE cal (.eqL neg a l) ρ S = (evE cal a ρ S).then fun x S1 => (evL cal l ρ S1).then fun es S2 => optA ((lstAt S2 x).bind fun ds => eqLD neg ds es) S2 := rfl
theorem v_op1 (f : Sto → D → Option D) (a : E) : evE cal (.op1 f a) ρ S = (evE cal a ρ S).then fun x S1 => optA (f S1 x) S1 := rfl
theorem v_op2 (f : Sto → D → D → Option D) (a b : E) : evE cal (.op2 f a b) ρ S = (evE cal a ρ S).then fun x S1 => (evE cal b ρ S1).then fun y S2 => optA (f S2 x y) S2 := rfl
theorem v_fstr (as : Es) : evE cal (.fstr as) ρ S = (evF cal as Str.empty ρ S).then fun z S1 => .val (.p (.str z)) S1 := rfl
theorem f_nil (acc : Str) : evF cal .nil acc ρ S = .val acc S := rfl
theorem f_cons (e : E) (es : Es) (acc : Str) : evF cal (.cons e es) acc ρ S = (evE cal e ρ S).then fun d S1 => (optA (fstep acc d) S1).then fun acc' S1 => evF cal es acc' ρ S1 := rfl
theorem a_nil' : evEs cal .nil ρ S = .val [] S := rfl
theorem a_cons' (e : E) (es : Es) : evEs cal (.cons e es) ρ S = (evE cal e ρ S).then fun d S1 => (evEs cal es ρ S1).then fun ds S2 => .val (d :: ds) S2 := rfl
theorem a_star' (e : E) (es : Es) : evEs cal (.star e es) ρ S = (evE cal e ρ S).then fun x S1 => (optA (ofD S1 x) S1).then fun xs S1 => (evEs cal es ρ S1).then fun ds S2 => .val (xs ++ ds) S2 := rfl
theorem l_disp' (as : Es) : evL cal (.disp as) ρ S = (evEs cal as ρ S).then fun ds S1 => optA (if ds.length ≤ 100000 then some ds else none) S1 := rfl
theorem l_of' (e : E) : evL cal (.of e) ρ S = (evE cal e ρ S).then fun x S1 => optA (ofD S1 x) S1 := rfl
theorem l_cat' (a b : E) : evL cal (.cat a b) ρ S = (evE cal a ρ S).then fun x S1 => (evE cal b ρ S1).then fun y S2 => optA (catD S2 x y) S2 := rfl
theorem l_cut' (a : E) (lo hi : Bd) : evL cal (.cut a lo hi) ρ S = (evE cal a ρ S).then fun x S1 => (evB cal lo ρ S1).then fun l S2 => (evB cal hi ρ S2).then fun h S3 => optA (cutLD S3 x l h) S3 := rfl
theorem b_no' : evB cal .no ρ S = .val none S := rfl
theorem b_at' (e : E) : evB cal (.at_ e) ρ S = (evE cal e ρ S).then fun x S1 => optA ((asInt x).map some) S1 := rfl
theorem i_tup' (e : E) : evI cal (.tup e) ρ S = (evE cal e ρ S).then fun x S1 => optA (srcTup x) S1 := rfl
theorem i_lst' (e : E) : evI cal (.lst e) ρ S = (evE cal e ρ S).then fun x S1 => optA (srcLst S1 x) S1 := rfl
theorem i_str' (e : E) : evI cal (.str e) ρ S = (evE cal e ρ S).then fun x S1 => optA (srcStr x) S1 := rfl
theorem i_rng' (e : E) : evI cal (.rng e) ρ S = (evE cal e ρ S).then fun x S1 => optA (srcRng x) S1 := rfl
/-! statements -/
theorem ss_nil' : exSs cal .nil ρ S = .val (.next, ρ) S := rfl
theorem ss_of {s : St} {r : Ss} {o : Out (Ctl × Sl)} (h : exS cal s ρ S = o) : exSs cal (.cons s r) ρ S = seqA o fun ρ' S' => exSs cal r ρ' S' := by
  subst h
  show M.bind _ _ S = _
  rw [bind_at]
  cases exS cal s ρ S with
  | val c S' => obtain ⟨c, ρ'⟩ := c; cases c <;> rfl
  | exc _ _ => rfl
  | bad => rfl
theorem ss_asg (i : Nat) (e : E) (r : Ss) : exSs cal (.cons (.asg i e) r) ρ S = (evE cal e ρ S).then fun d S1 => exSs cal r (ρ.set i (some d)) S1 := by
  rw [ss_of cal ρ S (o := (evE cal e ρ S).then fun d S1 => .val (.next, ρ.set i (some d)) S1) rfl, seqA_then]
  rfl
theorem ss_expr (e : E) (r : Ss) : exSs cal (.cons (.expr e) r) ρ S = (evE cal e ρ S).then fun _ S1 => exSs cal r ρ S1 := by
  rw [ss_of cal ρ S (o := (evE cal e ρ S).then fun d S1 => .val (.next, ρ) S1) rfl, seqA_then]
  rfl
theorem ss_ret (e : E) (r : Ss) : exSs cal (.cons (.ret e) r) ρ S = (evE cal e ρ S).then fun d S1 => .val (.ret d, ρ) S1 := by
  rw [ss_of cal ρ S (o := (evE cal e ρ S).then fun d S1 => .val (.ret d, ρ) S1) rfl, seqA_then]
  rfl
theorem ss_unp (is : List Nat) (e : E) (r : Ss) : exSs cal (.cons (.unp is e) r) ρ S = (evE cal e ρ S).then fun d S1 => (optA (tgt is false d ρ) S1).then fun ρ' S2 => exSs cal r ρ' S2 := by
  rw [ss_of cal ρ S (o := (evE cal e ρ S).then fun d S1 => (optA (tgt is false d ρ) S1).then fun ρ' S2 => .val (.next, ρ') S2) rfl, seqA_then]
  refine then_c fun d S1 => ?_
  rw [seqA_then]; rfl
theorem ss_ite (t : E) (a b r : Ss) : exSs cal (.cons (.ite t a b) r) ρ S = (evE cal t ρ S).then fun x S1 => boolA x (seqA (exSs cal a ρ S1) fun ρ' S' => exSs cal r ρ' S') (seqA (exSs cal b ρ S1) fun ρ' S' => exSs cal r ρ' S') := by
  rw [ss_of cal ρ S (o := (evE cal t ρ S).then fun x S1 => boolA x (exSs cal a ρ S1) (exSs cal b ρ S1)) (by
    refine (show _ = (evE cal t ρ S).then _ from rfl).trans ?_
    refine then_c fun d S1 => ?_
    exact asB _ _ _ _), seqA_then]
  refine then_c fun d S1 => ?_
  rw [seqA_boolA]
theorem ss_setI (o i v : E) (r : Ss) : exSs cal (.cons (.setI o i v) r) ρ S = (evE cal v ρ S).then fun d S1 => (evE cal o ρ S1).then fun x S2 => (evE cal i ρ S2).then fun y S3 => (setD x y d S3).then fun _ S4 => exSs cal r ρ S4 := by
  rw [ss_of cal ρ S (o := (evE cal v ρ S).then fun d S1 => (evE cal o ρ S1).then fun x S2 => (evE cal i ρ S2).then fun y S3 => (setD x y d S3).then fun _ S4 => .val (.next, ρ) S4) rfl, seqA_then]
  refine then_c fun d S1 => ?_
  rw [seqA_then]; refine then_c fun x S2 => ?_
  rw [seqA_then]; refine then_c fun y S3 => ?_
  rw [seqA_then]; rfl
theorem ss_for (it : Wi) (tg : List Nat) (one : Bool) (body r : Ss) : exSs cal (.cons (.for_ it tg one body) r) ρ S = (evI cal it ρ S).then fun src S1 => (optA (src.size S1) S1).then fun n S1 => seqA (forGo src (turn cal tg one body) n 0 ρ S1) fun ρ' S' => exSs cal r ρ' S' := by
  rw [ss_of cal ρ S (o := (evI cal it ρ S).then fun src S1 => (optA (src.size S1) S1).then fun n S1 => forGo src (turn cal tg one body) n 0 ρ S1) (by
    refine (show _ = (evI cal it ρ S).then _ from rfl).trans ?_
    refine then_c fun src S1 => ?_
    show (match src.size S1 with | some n => forGo src (turn cal tg one body) n 0 ρ S1 | none => .bad) = _
    cases src.size S1 <;> rfl), seqA_then]
  refine then_c fun src S1 => ?_
  rw [seqA_then]
end
/-- comprehensions over a fixed row, each turn by an equation -/
theorem lc_eq {ds : List D} {body : D → M D} {f : D → D} {S : Sto} (h : ∀ d ∈ ds, body d S = .val (f d) S) : ∀ (n i : Nat) (acc : List D), i + n = ds.length → lcGo (.fix ds) body n i acc S = .val (acc ++ (ds.drop i).map f) S
  | 0, i, acc, e => by
    have e : i = ds.length := by omega
    subst e
    show (match (Src.fix ds).at ds.length S with | some none => Out.val acc S | _ => .bad) = _
    simp [Src.at]
  | n + 1, i, acc, e => by
    have hi : i < ds.length := by omega
    have ea : (Src.fix ds).at i S = some (some ds[i]) := by simp [Src.at, List.getElem?_eq_getElem hi]
    show (match (Src.fix ds).at i S with
      | some none => Out.val acc S
      | some (some d) => M.bind (body d) (fun e => lcGo (.fix ds) body n (i + 1) (acc ++ [e])) S
      | none => .bad) = _
    rw [ea]
    show M.bind (body ds[i]) _ S = _
    rw [bind_at, h _ (List.getElem_mem hi)]
    show lcGo (.fix ds) body n (i + 1) (acc ++ [f ds[i]]) S = _
    rw [lc_eq h n (i + 1) _ (by omega), List.drop_eq_getElem_cons hi, List.append_assoc]
    rfl
theorem calm_val {α : Type} {m : M α} {S S' : Sto} {a : α} (h : m S = .val a S') : M.calm m S = .val a S' := by unfold M.calm; rw [h]
theorem l_lc_fix {cal : Nat → List D → M D} {it : Wi} {tg : List Nat} {one : Bool} {elt : E} {ρ : Sl} {S S1 : Sto} {ds : List D} {f : D → D} (hi : evI cal it ρ S = .val (.fix ds) S1) (hl : ds.length ≤ 100000)
    (h : ∀ d ∈ ds, ∃ ρ', tgt tg one d (wipeD ρ tg) = some ρ' ∧ evE cal elt ρ' S1 = .val (f d) S1) : evL cal (.lc it tg one elt) ρ S = .val (ds.map f) S1 := by
  refine (show _ = (evI cal it ρ S).then (fun src S1 => match src.size S1 with
    | some n => if n ≤ 100000 then lcGo src (fun d => M.calm (match tgt tg one d (wipeD ρ tg) with
        | some ρ' => evE cal elt ρ'
        | none => M.bad)) n 0 [] S1 else .bad
    | none => .bad) from rfl).trans ?_
  rw [hi]
  show (if ds.length ≤ 100000 then lcGo (.fix ds) _ ds.length 0 [] S1 else .bad) = _
  rw [if_pos hl, lc_eq (f := f) (fun d hd => calm_val (by
    obtain ⟨ρ', e1, e2⟩ := h d hd
    rw [e1]; exact e2)) _ 0 [] (by omega)]
  simp
/-- a call, by its body -/
def finA (n : Nat) (o : Out (Ctl × Sl)) : Out D := match o with
  | .val (.ret d, _) S' => fix n d S'
  | .val (.next, _) S' => fix n (.p .none) S'
  | _ => .bad
theorem callA {cal : Nat → List D → M D} {f : Fn} {ds : List D} (S : Sto) (h : ds.length = f.ar) : callF cal f ds S = finA S.length (exSs cal f.body (ds.map some ++ List.replicate (f.sz - f.ar) none) S) := by
  unfold callF
  rw [if_pos h]
  rfl
theorem finA_p (n : Nat) (d : PyData) (ρ : Sl) (S : Sto) : finA n (.val (.ret (.p d), ρ) S) = .val (.p d) (S.take n) := rfl
theorem finA_ref (n : Nat) (j : Nat) (ρ : Sl) (S : Sto) : finA n (.val (.ret (.ref j), ρ) S) = fix n (.ref j) S := rfl
theorem finA_boolA (n : Nat) (x : D) (a b : Out (Ctl × Sl)) : finA n (boolA x a b) = boolA x (finA n a) (finA n b) := by
  unfold boolA; split <;> rfl
theorem fix_new {n : Nat} {S : Sto} {o : MO} {T : Sto} (hn : S.length = n) (h : rbO n o = true) : fix n (.ref n) (S ++ o :: T) = .val (.ref n) (S ++ [o]) := by
  subst hn
  unfold fix
  simp only [Nat.lt_irrefl, if_false]
  rw [List.getElem?_append_right (Nat.le_refl _)]
  simp only [Nat.sub_self, List.getElem?_cons_zero, h, if_true]
  rw [List.take_append_of_le_length (Nat.le_refl _), List.take_length]
end Ir
set_option Elab.async false
set_option linter.all false
set_option maxRecDepth 100000
set_option maxHeartbeats 4000001
/-! The store's end, loops turn by turn, texts. -/
namespace Ir
open PySem
theorem app_get {A : Type} (S T : List A) (k : Nat) : (S ++ T)[S.length + k]? = T[k]? := by
  rw [List.getElem?_append_right (by omega)]; congr 1; omega
theorem app_get0 {A : Type} (S T : List A) : (S ++ T)[S.length]? = T[0]? := app_get S T 0
theorem app_set {A : Type} (S T : List A) (k : Nat) (x : A) : (S ++ T).set (S.length + k) x = S ++ T.set k x := by
  rw [List.set_append_right _ _ (by omega)]; congr 2; omega
theorem app_set0 {A : Type} (S T : List A) (x : A) : (S ++ T).set S.length x = S ++ T.set 0 x := app_set S T 0 x
theorem app_take {A : Type} (S T : List A) : (S ++ T).take S.length = S := by
  rw [List.take_append_of_le_length (Nat.le_refl _), List.take_length]
theorem app_one {A : Type} (S T : List A) (x : A) : (S ++ T) ++ [x] = S ++ (T ++ [x]) := List.append_assoc ..
theorem allocL (S : Sto) (ds : List D) (h : ds.all (rb S.length) = true) : alloc (.lst ds) S = .val (.ref S.length) (S ++ [.lst ds]) := by
  unfold alloc; rw [if_pos (show rbO S.length (.lst ds) = true from h)]
theorem allocD (S : Sto) (kvs : List (Sum Int Str × D)) (h : (kvs.all fun kv => rb S.length kv.2) = true) : alloc (.dic kvs) S = .val (.ref S.length) (S ++ [.dic kvs]) := by
  unfold alloc; rw [if_pos (show rbO S.length (.dic kvs) = true from h)]
theorem len_app {A : Type} (S T : List A) : (S ++ T).length = S.length + T.length := List.length_append
theorem rb_p (n : Nat) (d : PyData) : rb n (.p d) = true := rfl
theorem rb_fn (n : Nat) (i : Nat) : rb n (.fn i) = true := rfl
theorem rb_ref (n j : Nat) (h : j < n) : rb n (.ref j) = true := decide_eq_true h
/-- a loop's turn -/
theorem for_more {src : Src} {body : D → Sl → M (Ctl × Sl)} {n i : Nat} {ρ : Sl} {S : Sto} {d : D} (h : src.at i S = some (some d)) : forGo src body (n + 1) i ρ S = (body d ρ S).then fun c S' => (match c with
      | (.next, ρ') => forGo src body n (i + 1) ρ'
      | (.cont, ρ') => forGo src body n (i + 1) ρ'
      | (.brk, ρ') => M.pure (.next, ρ')
      | (.ret d, ρ') => M.pure (.ret d, ρ')) S' := by
  show (match src.at i S with | some none => Out.val (Ctl.next, ρ) S | some (some d) => M.bind (body d ρ) _ S | none => .bad) = _
  rw [h]; exact bind_at _ _ _
theorem for_no {src : Src} {body : D → Sl → M (Ctl × Sl)} {n i : Nat} {ρ : Sl} {S : Sto} (h : src.at i S = some none) : forGo src body n i ρ S = .val (.next, ρ) S := by
  cases n with
  | zero =>
    show (match src.at i S with | some none => Out.val (Ctl.next, ρ) S | _ => .bad) = _
    rw [h]
  | succ n =>
    show (match src.at i S with | some none => Out.val (Ctl.next, ρ) S | some (some d) => M.bind (body d ρ) _ S | none => .bad) = _
    rw [h]
/-! texts -/
theorem str_assoc (a b c : Str) : (a ++ b) ++ c = a ++ (b ++ c) := by
  show Str.append (Str.append a b) c = Str.append a (Str.append b c)
  unfold Str.append; simp [Array.append_assoc]
theorem str_nil (a : Str) : Str.empty ++ a = a := by
  show Str.append Str.empty a = a
  unfold Str.append Str.empty; simp
theorem str_len (a b : Str) : (a ++ b).length = a.length + b.length := by
  show (Str.append a b).length = _
  unfold Str.append Str.length; simp
theorem join_nil (s : Str) : Txt.join s [] = Str.empty := rfl
theorem join_eq (s : Str) (l : List Str) : Txt.join s l = Str.join s l := StrLaws.glued_eq_join s l
theorem join_one (s x : Str) : Txt.join s [x] = x := by rw [join_eq]; rfl
theorem join_cons (s x y : Str) (l : List Str) : Txt.join s (x :: y :: l) = x ++ s ++ Txt.join s (y :: l) := by rw [join_eq, join_eq]; rfl
theorem join_len (s : Str) (l : List Str) : (Txt.join s l).length ≤ (l.map (·.length)).sum + l.length * s.length := by rw [join_eq]; exact StrLaws.join_length_le s l
theorem strsOf_map (zs : List Str) : strsOf (zs.map PyData.str) = some zs := (strs_back zs).2
theorem plainOf_map (ds : List PyData) : plainOf (ds.map D.p) = some ds := plain_back ds
theorem joinD_of (S : Sto) (s : Str) (y : D) (zs : List Str) (hy : ofD S y = some (zs.map fun z => D.p (.str z))) (h : (zs.map (·.length)).sum + zs.length * s.length ≤ 16777216) : joinD S (.p (.str s)) y = some (.p (.str (Txt.join s zs))) := by
  unfold joinD
  simp only [hy, Option.bind_some, (strs_back zs).1, strsOf_map]
  rw [if_pos h]
theorem joinD_tup (S : Sto) (s : Str) (zs : List Str) (h : (zs.map (·.length)).sum + zs.length * s.length ≤ 16777216) : joinD S (.p (.str s)) (.p (.tuple (zs.map .str))) = some (.p (.str (Txt.join s zs))) :=
  joinD_of S s _ zs (by show some ((zs.map PyData.str).map D.p) = _; rw [List.map_map]; rfl) h
theorem lstAt_ref {S : Sto} {j : Nat} {ds : List D} (h : S[j]? = some (.lst ds)) : lstAt S (.ref j) = some ds := by
  unfold lstAt
  simp only [h]
theorem joinD_lst (S : Sto) (j : Nat) (s : Str) (zs : List Str) (hj : S[j]? = some (.lst (zs.map fun z => D.p (.str z)))) (h : (zs.map (·.length)).sum + zs.length * s.length ≤ 16777216) : joinD S (.p (.str s)) (.ref j) = some (.p (.str (Txt.join s zs))) :=
  joinD_of S s _ zs (by unfold ofD; exact lstAt_ref hj) h
theorem strD_str (z : Str) : strD (.p (.str z)) = some (.p (.str z)) := rfl
theorem ofD_tup (S : Sto) (ds : List PyData) : ofD S (.p (.tuple ds)) = some (ds.map .p) := rfl
/-- a loop over a fixed row whose slots and store are told for each turn -/
theorem for_seq {ds : List D} {body : D → Sl → M (Ctl × Sl)} (ρf : Nat → Sl) (Sf : Nat → Sto) (step : ∀ i d, ds[i]? = some d → body d (ρf i) (Sf i) = .val (.next, ρf (i + 1)) (Sf (i + 1))) : ∀ (n i : Nat), i + n = ds.length → forGo (.fix ds) body n i (ρf i) (Sf i) = .val (.next, ρf ds.length) (Sf ds.length)
  | 0, i, h => by
    have e : i = ds.length := by omega
    subst e
    exact for_no (by simp [Src.at])
  | n + 1, i, h => by
    have hi : i < ds.length := by omega
    rw [for_more (d := ds[i]) (by simp [Src.at, List.getElem?_eq_getElem hi]), step i _ (List.getElem?_eq_getElem hi)]
    exact for_seq ρf Sf step n (i + 1) (by omega)
/-- comprehensions whose turns leave things behind at the store's end -/
theorem lc_grow {ds : List D} {body : D → M D} {f : D → D} {S : Sto} (h : ∀ d ∈ ds, ∀ T, ∃ T', body d (S ++ T) = .val (f d) (S ++ T')) : ∀ (n i : Nat) (acc : List D) (T : Sto), i + n = ds.length → ∃ T', lcGo (.fix ds) body n i acc (S ++ T) = .val (acc ++ (ds.drop i).map f) (S ++ T')
  | 0, i, acc, T, e => by
    have e : i = ds.length := by omega
    subst e
    refine ⟨T, ?_⟩
    show (match (Src.fix ds).at ds.length (S ++ T) with | some none => Out.val acc (S ++ T) | _ => .bad) = _
    simp [Src.at]
  | n + 1, i, acc, T, e => by
    have hi : i < ds.length := by omega
    have ea : (Src.fix ds).at i (S ++ T) = some (some ds[i]) := by simp [Src.at, List.getElem?_eq_getElem hi]
    obtain ⟨T1, h1⟩ := h _ (List.getElem_mem hi) T
    obtain ⟨T2, h2⟩ := lc_grow h n (i + 1) (acc ++ [f ds[i]]) T1 (by omega)
    refine ⟨T2, ?_⟩
    show (match (Src.fix ds).at i (S ++ T) with
      | some none => Out.val acc (S ++ T)
      | some (some d) => M.bind (body d) (fun e => lcGo (.fix ds) body n (i + 1) (acc ++ [e])) (S ++ T)
      | none => .bad) = _
    rw [ea]
    show M.bind (body ds[i]) _ (S ++ T) = _
    rw [bind_at, h1]
    show lcGo (.fix ds) body n (i + 1) (acc ++ [f ds[i]]) (S ++ T1) = _
    rw [h2, List.drop_eq_getElem_cons hi, List.append_assoc]
    rfl
theorem l_lc_grow {cal : Nat → List D → M D} {it : Wi} {tg : List Nat} {one : Bool} {elt : E} {ρ : Sl} {S S0 T : Sto} {ds : List D} {f : D → D} (hi : evI cal it ρ S0 = .val (.fix ds) (S ++ T)) (hl : ds.length ≤ 100000)
    (h : ∀ d ∈ ds, ∀ T, ∃ T' ρ', tgt tg one d (wipeD ρ tg) = some ρ' ∧ evE cal elt ρ' (S ++ T) = .val (f d) (S ++ T')) : ∃ T', evL cal (.lc it tg one elt) ρ S0 = .val (ds.map f) (S ++ T') := by
  obtain ⟨T', e⟩ := lc_grow (ds := ds) (f := f) (S := S) (body := fun d => M.calm (match tgt tg one d (wipeD ρ tg) with
        | some ρ' => evE cal elt ρ'
        | none => M.bad)) (fun d hd T => by
    obtain ⟨T', ρ', e1, e2⟩ := h d hd T
    exact ⟨T', calm_val (by rw [e1]; exact e2)⟩) ds.length 0 [] T (by omega)
  refine ⟨T', ?_⟩
  refine (show _ = (evI cal it ρ S0).then (fun src S1 => match src.size S1 with
    | some n => if n ≤ 100000 then lcGo src (fun d => M.calm (match tgt tg one d (wipeD ρ tg) with
        | some ρ' => evE cal elt ρ'
        | none => M.bad)) n 0 [] S1 else .bad
    | none => .bad) from rfl).trans ?_
  rw [hi]
  show (if ds.length ≤ 100000 then lcGo (.fix ds) _ ds.length 0 [] (S ++ T) else .bad) = _
  rw [if_pos hl, e]
  simp
theorem setD_dic {S : Sto} {j : Nat} {kvs : List (Sum Int Str × D)} {k : Str} {d : D} (h : S[j]? = some (.dic kvs)) (hb : rb j d = true) (hl : kvs.length ≤ 1000) : setD (.ref j) (.p (.str k)) d S = .val () (S.set j (.dic (putD kvs (.inr k) d))) := by
  unfold setD
  simp only [h, hb, hl, and_self, if_true]
def putA (S : Sto) (j : Nat) (k : Sum Int Str) (d : D) (o : Option MO) : Out Unit := match o with
  | some (.dic kvs) => if rb j d = true ∧ kvs.length ≤ 1000 then .val () (S.set j (.dic (putD kvs k d))) else .bad
  | _ => .bad
theorem setD_str (j : Nat) (k : Str) (d : D) (S : Sto) : setD (.ref j) (.p (.str k)) d S = putA S j (.inr k) d S[j]? := rfl
theorem putA_dic (S : Sto) (j : Nat) (k : Sum Int Str) (d : D) (kvs : List (Sum Int Str × D)) (hd : rb j d = true) (hl : kvs.length ≤ 1000) : putA S j k d (some (.dic kvs)) = .val () (S.set j (.dic (putD kvs k d))) := if_pos ⟨hd, hl⟩
theorem dicAt_ref {S : Sto} {j : Nat} {kvs : List (Sum Int Str × D)} (h : S[j]? = some (.dic kvs)) : dicAt S (.ref j) = some kvs := by
  unfold dicAt
  simp only [h]
theorem appD_ref {S : Sto} {j : Nat} {ds : List D} {d : PyData} (h : S[j]? = some (.lst ds)) (hl : ds.length < 100000) : appD (.ref j) (.p d) S = .val (.p .none) (S.set j (.lst (ds ++ [.p d]))) := by
  show (match S[j]? with
    | some (.lst ds) => if rb j (D.p d) = true ∧ ds.length < 100000 then Out.val (D.p .none) (S.set j (.lst (ds ++ [D.p d]))) else .bad
    | _ => .bad) = _
  rw [h]
  exact if_pos ⟨rfl, hl⟩
theorem extD_ref {S : Sto} {j i : Nat} {ds es : List D} (h : S[j]? = some (.lst ds)) (h2 : S[i]? = some (.lst es)) (hb : es.all (rb j) = true) (hl : ds.length + es.length ≤ 100000) : extD (.ref j) (.ref i) S = .val (.p .none) (S.set j (.lst (ds ++ es))) := by
  show (match S[j]?, lstAt S (.ref i) with
    | some (.lst ds), some es => if es.all (rb j) = true ∧ ds.length + es.length ≤ 100000 then Out.val (D.p .none) (S.set j (.lst (ds ++ es))) else .bad
    | _, _ => .bad) = _
  rw [h, lstAt_ref h2]
  exact if_pos ⟨hb, hl⟩
theorem catD_ref {S : Sto} {i j : Nat} {ds es : List D} (h : S[i]? = some (.lst ds)) (h2 : S[j]? = some (.lst es)) (hl : ds.length + es.length ≤ 100000) : catD S (.ref i) (.ref j) = some (ds ++ es) := by
  unfold catD
  rw [lstAt_ref h, lstAt_ref h2]
  exact if_pos hl
/-! loops, turn by turn, for short rows -/
def atA {β : Type} (o : Option (Option D)) (a : Out β) (f : D → Out β) (_ : Lz a := ()) (_ : Lz f := ()) : Out β := match o with
  | some none => a
  | some (some d) => f d
  | none => .bad
theorem atA_no {β : Type} (a : Out β) (f : D → Out β) : atA (some none) a f = a := rfl
theorem atA_go {β : Type} (d : D) (a : Out β) (f : D → Out β) : atA (some (some d)) a f = f d := rfl
def contA (c : Ctl × Sl) (S : Sto) (f : Sl → Sto → Out (Ctl × Sl)) (_ : Lz f := ()) : Out (Ctl × Sl) := match c with
  | (.next, ρ) => f ρ S
  | (.cont, ρ) => f ρ S
  | (.brk, ρ) => .val (.next, ρ) S
  | (.ret d, ρ) => .val (.ret d, ρ) S
theorem contA_next (ρ : Sl) (S : Sto) (f : Sl → Sto → Out (Ctl × Sl)) : contA (.next, ρ) S f = f ρ S := rfl
theorem contA_ret (d : D) (ρ : Sl) (S : Sto) (f : Sl → Sto → Out (Ctl × Sl)) : contA (.ret d, ρ) S f = .val (.ret d, ρ) S := rfl
theorem forGo_s (src : Src) (body : D → Sl → M (Ctl × Sl)) (n i : Nat) (ρ : Sl) (S : Sto) : forGo src body (n + 1) i ρ S = atA (src.at i S) (.val (.next, ρ) S) fun d => (body d ρ S).then fun c S' => contA c S' fun ρ' S' => forGo src body n (i + 1) ρ' S' := by
  cases h : src.at i S with
  | none =>
    show (match src.at i S with | some none => Out.val (Ctl.next, ρ) S | some (some d) => M.bind (body d ρ) _ S | none => .bad) = _
    rw [h]; rfl
  | some o =>
    cases o with
    | none => exact for_no h
    | some d =>
      rw [for_more h]
      show _ = (body d ρ S).then _
      congr
      funext c S'
      obtain ⟨c, ρ'⟩ := c
      cases c <;> rfl
theorem forGo_z (src : Src) (body : D → Sl → M (Ctl × Sl)) (i : Nat) (ρ : Sl) (S : Sto) : forGo src body 0 i ρ S = atA (src.at i S) (.val (.next, ρ) S) fun _ => .bad := by
  show (match src.at i S with | some none => Out.val (Ctl.next, ρ) S | _ => .bad) = _
  cases h : src.at i S with
  | none => rfl
  | some o => cases o <;> rfl
theorem size_fix (ds : List D) (S : Sto) : (Src.fix ds).size S = some ds.length := rfl
theorem size_dyn (j : Nat) (S : Sto) : (Src.dyn j).size S = (match S[j]? with | some (.lst ds) => some ds.length | _ => none) := rfl
theorem at_fix (ds : List D) (i : Nat) (S : Sto) : (Src.fix ds).at i S = some ds[i]? := rfl
theorem at_dyn (j i : Nat) (S : Sto) : (Src.dyn j).at i S = (match S[j]? with | some (.lst ds) => some ds[i]? | _ => none) := rfl
theorem turn_one (cal : Nat → List D → M D) (i : Nat) (body : Ss) (d : D) (ρ : Sl) (S : Sto) : turn cal [i] true body d ρ S = exSs cal body (ρ.set i (some d)) S := rfl
theorem dicAt_eq (S : Sto) (j : Nat) : dicAt S (.ref j) = (match S[j]? with | some (.dic kvs) => some kvs | _ => none) := rfl
theorem lstAt_eq (S : Sto) (j : Nat) : lstAt S (.ref j) = (match S[j]? with | some (.lst ds) => some ds | _ => none) := rfl
theorem dget3_str (S : Sto) (x : D) (k : Str) (w : D) : dget3D S x (.p (.str k)) w = (dicAt S x).bind fun kvs => some ((valD kvs (.inr k)).getD w) := rfl
theorem dixD_int (S : Sto) (x : D) (k : Int) : dixD S x (.p (.int k)) = (dicAt S x).bind fun kvs => valD kvs (.inl k) := rfl
theorem srcLst_eq (S : Sto) (j : Nat) : srcLst S (.ref j) = (match S[j]? with | some (.lst _) => some (.dyn j) | _ => none) := rfl
theorem ofD_ref (S : Sto) (j : Nat) : ofD S (.ref j) = lstAt S (.ref j) := rfl
theorem tupD_ref (S : Sto) (j : Nat) : tupD S (.ref j) = (lstAt S (.ref j)).bind fun ds => (plainOf ds).map fun ps => .p (.tuple ps) := rfl
theorem lenD_ref (S : Sto) (j : Nat) : lenD S (.ref j) = (match S[j]? with | some (.lst ds) => some (ds.length : Int) | _ => none) := rfl
theorem lenD_tup (S : Sto) (ds : List PyData) : lenD S (.p (.tuple ds)) = some (ds.length : Int) := rfl
theorem getI_ref (S : Sto) (j : Nat) (i : Int) : getI S (.ref j) (.p (.int i)) = (match S[j]? with | some (.lst ds) => L2.atI ds i | _ => none) := rfl
def lsA {β : Type} (o : Option MO) (f : List D → Out β) (_ : Lz f := ()) : Out β := match o with
  | some (.lst ds) => f ds
  | _ => .bad
theorem lsA_lst {β : Type} (ds : List D) (f : List D → Out β) : lsA (some (.lst ds)) f = f ds := rfl
def ifA {β : Type} (c : Bool) (a : Out β) : Out β := match c with
  | true => a
  | false => .bad
theorem ifA_t {β : Type} (a : Out β) : ifA true a = a := rfl
theorem appD_eq (S : Sto) (j : Nat) (y : D) : appD (.ref j) y S = lsA S[j]? fun ds => ifA (rb j y && decide (ds.length < 100000)) (.val (.p .none) (S.set j (.lst (ds ++ [y])))) := by
  show (match S[j]? with | some (.lst ds) => if rb j y = true ∧ ds.length < 100000 then Out.val (D.p .none) (S.set j (.lst (ds ++ [y]))) else .bad | _ => .bad) = _
  cases h : S[j]? with
  | none => rfl
  | some o =>
    cases o with
    | dic _ => rfl
    | lst ds =>
      show (if _ then _ else _) = ifA _ _
      by_cases hb : rb j y = true ∧ ds.length < 100000
      · rw [if_pos hb, hb.1, decide_eq_true hb.2]; rfl
      · rw [if_neg hb]
        have : (rb j y && decide (ds.length < 100000)) = false := by
          cases h1 : rb j y with
          | false => rfl
          | true => simp only [Bool.true_and, decide_eq_false_iff_not]; exact fun z => hb ⟨h1, z⟩
        rw [this]; rfl
theorem extD_eq (S : Sto) (j : Nat) (i : Nat) : extD (.ref j) (.ref i) S = lsA S[j]? fun ds => lsA S[i]? fun es => ifA (es.all (rb j) && decide (ds.length + es.length ≤ 100000)) (.val (.p .none) (S.set j (.lst (ds ++ es)))) := by
  cases h : S[j]? with
  | none => show (match S[j]?, lstAt S (.ref i) with | some (.lst ds), some es => _ | _, _ => Out.bad) = _; rw [h]; rfl
  | some o =>
    cases o with
    | dic _ => show (match S[j]?, lstAt S (.ref i) with | some (.lst ds), some es => _ | _, _ => Out.bad) = _; rw [h]; rfl
    | lst ds =>
      cases h2 : S[i]? with
      | none =>
        have : lstAt S (.ref i) = none := by rw [lstAt_eq, h2]
        show (match S[j]?, lstAt S (.ref i) with | some (.lst ds), some es => _ | _, _ => Out.bad) = _; rw [h, this]; rfl
      | some o2 =>
        cases o2 with
        | dic _ =>
          have : lstAt S (.ref i) = none := by rw [lstAt_eq, h2]
          show (match S[j]?, lstAt S (.ref i) with | some (.lst ds), some es => _ | _, _ => Out.bad) = _; rw [h, this]; rfl
        | lst es =>
          by_cases hb : es.all (rb j) = true ∧ ds.length + es.length ≤ 100000
          · rw [extD_ref h h2 hb.1 hb.2]
            show _ = ifA _ _
            rw [hb.1, decide_eq_true hb.2]; rfl
          · show (match S[j]?, lstAt S (.ref i) with | some (.lst ds), some es => if es.all (rb j) = true ∧ ds.length + es.length ≤ 100000 then Out.val (D.p .none) (S.set j (.lst (ds ++ es))) else .bad | _, _ => Out.bad) = _
            rw [h, lstAt_ref h2]
            show (if _ then _ else _) = ifA _ _
            rw [if_neg hb]
            have : (es.all (rb j) && decide (ds.length + es.length ≤ 100000)) = false := by
              cases h1 : es.all (rb j) with
              | false => rfl
              | true => simp only [Bool.true_and, decide_eq_false_iff_not]; exact fun z => hb ⟨h1, z⟩
            rw [this]; rfl
theorem catD_eq (S : Sto) (x y : D) : catD S x y = (lstAt S x).bind fun ds => (lstAt S y).bind fun es => if ds.length + es.length ≤ 100000 then some (ds ++ es) else none := rfl
/-- two texts compared -/
theorem eqD_str (x y : Str) : eqD (.p (.str x)) (.p (.str y)) = some (decide (x = y)) := by
  show some (PyData.eqv (.str x) (.str y)) = _
  by_cases h : x = y <;> simp [PyData.eqv, h]
end Ir


set_option Elab.async false
set_option linter.all false
set_option maxRecDepth 100000
set_option maxHeartbeats 4000001
/-! Comprehensions and loops over lists of the store, and those that leave some out. -/
namespace Ir
open PySem
theorem dyn_at {S : Sto} {j : Nat} {ds : List D} (h : S[j]? = some (.lst ds)) (i : Nat) : (Src.dyn j).at i S = some ds[i]? := by
  rw [at_dyn, h]
theorem lc_dyn {ds : List D} {body : D → M D} {f : D → D} {S : Sto} {j : Nat} (hj : S[j]? = some (.lst ds)) (h : ∀ d ∈ ds, body d S = .val (f d) S) : ∀ (n i : Nat) (acc : List D), i + n = ds.length → lcGo (.dyn j) body n i acc S = .val (acc ++ (ds.drop i).map f) S
  | 0, i, acc, e => by
    have e : i = ds.length := by omega
    subst e
    show (match (Src.dyn j).at ds.length S with | some none => Out.val acc S | _ => .bad) = _
    rw [dyn_at hj]
    simp
  | n + 1, i, acc, e => by
    have hi : i < ds.length := by omega
    have ea : (Src.dyn j).at i S = some (some ds[i]) := by rw [dyn_at hj, List.getElem?_eq_getElem hi]
    show (match (Src.dyn j).at i S with
      | some none => Out.val acc S
      | some (some d) => M.bind (body d) (fun e => lcGo (.dyn j) body n (i + 1) (acc ++ [e])) S
      | none => .bad) = _
    rw [ea]
    show M.bind (body ds[i]) _ S = _
    rw [bind_at, h _ (List.getElem_mem hi)]
    show lcGo (.dyn j) body n (i + 1) (acc ++ [f ds[i]]) S = _
    rw [lc_dyn hj h n (i + 1) _ (by omega), List.drop_eq_getElem_cons hi, List.append_assoc]
    rfl
theorem l_lc_dyn {cal : Nat → List D → M D} {it : Wi} {tg : List Nat} {one : Bool} {elt : E} {ρ : Sl} {S S1 : Sto} {ds : List D} {f : D → D} {j : Nat} (hi : evI cal it ρ S = .val (.dyn j) S1) (hj : S1[j]? = some (.lst ds)) (hl : ds.length ≤ 100000)
    (h : ∀ d ∈ ds, ∃ ρ', tgt tg one d (wipeD ρ tg) = some ρ' ∧ evE cal elt ρ' S1 = .val (f d) S1) : evL cal (.lc it tg one elt) ρ S = .val (ds.map f) S1 := by
  refine (show _ = (evI cal it ρ S).then (fun src S1 => match src.size S1 with
    | some n => if n ≤ 100000 then lcGo src (fun d => M.calm (match tgt tg one d (wipeD ρ tg) with
        | some ρ' => evE cal elt ρ'
        | none => M.bad)) n 0 [] S1 else .bad
    | none => .bad) from rfl).trans ?_
  rw [hi]
  show (match (Src.dyn j).size S1 with
    | some n => if n ≤ 100000 then lcGo (.dyn j) _ n 0 [] S1 else .bad
    | none => .bad) = _
  rw [size_dyn, hj]
  show (if ds.length ≤ 100000 then lcGo (.dyn j) _ ds.length 0 [] S1 else .bad) = _
  rw [if_pos hl, lc_dyn (f := f) hj (fun d hd => calm_val (by
    obtain ⟨ρ', e1, e2⟩ := h d hd
    rw [e1]; exact e2)) _ 0 [] (by omega)]
  simp
theorem lcf_dyn {ds : List D} {body : D → M (Option D)} {g : D → Option D} {S : Sto} {j : Nat} (hj : S[j]? = some (.lst ds)) (h : ∀ d ∈ ds, body d S = .val (g d) S) : ∀ (n i : Nat) (acc : List D), i + n = ds.length → lcGoF (.dyn j) body n i acc S = .val (acc ++ (ds.drop i).filterMap g) S
  | 0, i, acc, e => by
    have e : i = ds.length := by omega
    subst e
    show (match (Src.dyn j).at ds.length S with | some none => Out.val acc S | _ => .bad) = _
    rw [dyn_at hj]
    simp
  | n + 1, i, acc, e => by
    have hi : i < ds.length := by omega
    have ea : (Src.dyn j).at i S = some (some ds[i]) := by rw [dyn_at hj, List.getElem?_eq_getElem hi]
    show (match (Src.dyn j).at i S with
      | some none => Out.val acc S
      | some (some d) => M.bind (body d) (fun e => lcGoF (.dyn j) body n (i + 1) (match e with | some e => acc ++ [e] | none => acc)) S
      | none => .bad) = _
    rw [ea]
    show M.bind (body ds[i]) _ S = _
    rw [bind_at, h _ (List.getElem_mem hi)]
    show lcGoF (.dyn j) body n (i + 1) (match g ds[i] with | some e => acc ++ [e] | none => acc) S = _
    rw [lcf_dyn hj h n (i + 1) _ (by omega), List.drop_eq_getElem_cons hi, List.filterMap_cons]
    cases q : g ds[i] with
    | none => rfl
    | some e => exact congrArg (Out.val · S) (List.append_assoc ..)
theorem l_lcf_dyn {cal : Nat → List D → M D} {it : Wi} {tg : List Nat} {one : Bool} {c elt : E} {ρ : Sl} {S S1 : Sto} {ds : List D} {g : D → Option D} {j : Nat} (hi : evI cal it ρ S = .val (.dyn j) S1) (hj : S1[j]? = some (.lst ds)) (hl : ds.length ≤ 100000)
    (h : ∀ d ∈ ds, ∃ ρ' b, tgt tg one d (wipeD ρ tg) = some ρ' ∧ evE cal c ρ' S1 = .val (.p (.bool b)) S1 ∧ (if b = true then ∃ z, g d = some z ∧ evE cal elt ρ' S1 = .val z S1 else g d = none)) : evL cal (.lcf it tg one c elt) ρ S = .val (ds.filterMap g) S1 := by
  refine (show _ = (evI cal it ρ S).then (fun src S1 => match src.size S1 with
    | some n => if n ≤ 100000 then lcGoF src (fun d => M.calm (match tgt tg one d (wipeD ρ tg) with
        | some ρ' => M.bind (evE cal c ρ') fun x => M.bind (M.opt (asBool x)) fun k => if k = true then M.bind (evE cal elt ρ') fun z => M.pure (some z) else M.pure none
        | none => M.bad)) n 0 [] S1 else .bad
    | none => .bad) from rfl).trans ?_
  rw [hi]
  show (match (Src.dyn j).size S1 with
    | some n => if n ≤ 100000 then lcGoF (.dyn j) _ n 0 [] S1 else .bad
    | none => .bad) = _
  rw [size_dyn, hj]
  show (if ds.length ≤ 100000 then lcGoF (.dyn j) _ ds.length 0 [] S1 else .bad) = _
  rw [if_pos hl, lcf_dyn (g := g) hj (fun d hd => calm_val (by
    obtain ⟨ρ', b, e1, e2, e3⟩ := h d hd
    rw [e1]
    show M.bind (evE cal c ρ') _ S1 = _
    rw [bind_at, e2]
    cases b with
    | true =>
      obtain ⟨z, e4, e5⟩ := e3
      rw [e4]
      show M.bind (evE cal elt ρ') _ S1 = _
      rw [bind_at, e5]
      rfl
    | false =>
      have e3 : g d = none := e3
      rw [e3]
      rfl)) _ 0 [] (by omega)]
  simp
/-- a loop over a list of the store, whose turns leave that list as it is -/
theorem for_dyn {okS : Ctl × Sl → Sto → Prop} {ds : List D} {j : Nat} {body : D → Sl → M (Ctl × Sl)} (I : Nat → Sl → Sto → Prop) (hj : ∀ i ρ S, I i ρ S → S[j]? = some (.lst ds)) (done : ∀ ρ S, I ds.length ρ S → okS (.next, ρ) S)
    (step : ∀ i d ρ S, ds[i]? = some d → I i ρ S → ∃ ρ' S', body d ρ S = .val (.next, ρ') S' ∧ I (i + 1) ρ' S') : ∀ (n i : Nat) (ρ : Sl) (S : Sto), i + n = ds.length → I i ρ S → ∃ ρ' S', forGo (.dyn j) body n i ρ S = .val (.next, ρ') S' ∧ okS (.next, ρ') S'
  | 0, i, ρ, S, h, hI => by
    have e : i = ds.length := by omega
    subst e
    exact ⟨ρ, S, for_no (by rw [dyn_at (hj _ _ _ hI)]; simp), done _ _ hI⟩
  | n + 1, i, ρ, S, h, hI => by
    have hi : i < ds.length := by omega
    obtain ⟨ρ1, S1, e1, I1⟩ := step i ds[i] ρ S (List.getElem?_eq_getElem hi) hI
    obtain ⟨ρ2, S2, e2, o2⟩ := for_dyn I hj done step n (i + 1) ρ1 S1 (by omega) I1
    refine ⟨ρ2, S2, ?_, o2⟩
    rw [for_more (d := ds[i]) (by rw [dyn_at (hj _ _ _ hI), List.getElem?_eq_getElem hi]), e1]
    exact e2
theorem for_fixI {okS : Ctl × Sl → Sto → Prop} {ds : List D} {body : D → Sl → M (Ctl × Sl)} (I : Nat → Sl → Sto → Prop) (done : ∀ ρ S, I ds.length ρ S → okS (.next, ρ) S)
    (step : ∀ i d ρ S, ds[i]? = some d → I i ρ S → ∃ ρ' S', body d ρ S = .val (.next, ρ') S' ∧ I (i + 1) ρ' S') : ∀ (n i : Nat) (ρ : Sl) (S : Sto), i + n = ds.length → I i ρ S → ∃ ρ' S', forGo (.fix ds) body n i ρ S = .val (.next, ρ') S' ∧ okS (.next, ρ') S'
  | 0, i, ρ, S, h, hI => by
    have e : i = ds.length := by omega
    subst e
    exact ⟨ρ, S, for_no (by simp [Src.at]), done _ _ hI⟩
  | n + 1, i, ρ, S, h, hI => by
    have hi : i < ds.length := by omega
    obtain ⟨ρ1, S1, e1, I1⟩ := step i ds[i] ρ S (List.getElem?_eq_getElem hi) hI
    obtain ⟨ρ2, S2, e2, o2⟩ := for_fixI I done step n (i + 1) ρ1 S1 (by omega) I1
    refine ⟨ρ2, S2, ?_, o2⟩
    rw [for_more (d := ds[i]) (by simp [Src.at, List.getElem?_eq_getElem hi]), e1]
    exact e2
theorem l_op1' (cal : Nat → List D → M D) (ρ : Sl) (S : Sto) (f : Sto → D → Option (List D)) (a : E) : evL cal (.op1 f a) ρ S = (evE cal a ρ S).then fun x S1 => optA (f S1 x) S1 := rfl
/-- a comprehension with a test over any source, whose turns leave the store as it is -/
theorem lcf_pure {src : Src} {ds : List D} {body : D → M (Option D)} {g : D → Option D} {S : Sto} (hs : ∀ i, src.at i S = some ds[i]?) (h : ∀ d ∈ ds, body d S = .val (g d) S) : ∀ (n i : Nat) (acc : List D), i + n = ds.length → lcGoF src body n i acc S = .val (acc ++ (ds.drop i).filterMap g) S
  | 0, i, acc, e => by
    have e : i = ds.length := by omega
    subst e
    show (match src.at ds.length S with | some none => Out.val acc S | _ => .bad) = _
    rw [hs]
    simp
  | n + 1, i, acc, e => by
    have hi : i < ds.length := by omega
    have ea : src.at i S = some (some ds[i]) := by rw [hs, List.getElem?_eq_getElem hi]
    show (match src.at i S with
      | some none => Out.val acc S
      | some (some d) => M.bind (body d) (fun e => lcGoF src body n (i + 1) (match e with | some e => acc ++ [e] | none => acc)) S
      | none => .bad) = _
    rw [ea]
    show M.bind (body ds[i]) _ S = _
    rw [bind_at, h _ (List.getElem_mem hi)]
    show lcGoF src body n (i + 1) (match g ds[i] with | some e => acc ++ [e] | none => acc) S = _
    rw [lcf_pure hs h n (i + 1) _ (by omega), List.drop_eq_getElem_cons hi, List.filterMap_cons]
    cases q : g ds[i] with
    | none => rfl
    | some e => exact congrArg (Out.val · S) (List.append_assoc ..)
/-- the same, the store changing: what is kept is a sublist -/
theorem lcf_sub {src : Src} {ds : List D} {body : D → M (Option D)} (I : Nat → Sto → Prop) (hs : ∀ i S, I i S → src.at i S = some ds[i]?) (h : ∀ i d S, ds[i]? = some d → I i S → ∃ b S', body d S = .val (if b = true then some d else none) S' ∧ I (i + 1) S') :
    ∀ (n i : Nat) (acc : List D) (S : Sto), i + n = ds.length → I i S → ∃ es S', lcGoF src body n i acc S = .val (acc ++ es) S' ∧ es.Sublist (ds.drop i) ∧ I ds.length S'
  | 0, i, acc, S, e, hI => by
    have e : i = ds.length := by omega
    subst e
    refine ⟨[], S, ?_, List.nil_sublist _, hI⟩
    show (match src.at ds.length S with | some none => Out.val acc S | _ => .bad) = _
    rw [hs _ _ hI]
    simp
  | n + 1, i, acc, S, e, hI => by
    have hi : i < ds.length := by omega
    have ea : src.at i S = some (some ds[i]) := by rw [hs _ _ hI, List.getElem?_eq_getElem hi]
    obtain ⟨b, S1, e1, I1⟩ := h i ds[i] S (List.getElem?_eq_getElem hi) hI
    obtain ⟨es, S2, e2, sub, I2⟩ := lcf_sub I hs h n (i + 1) (if b = true then acc ++ [ds[i]] else acc) S1 (by omega) I1
    refine ⟨if b = true then ds[i] :: es else es, S2, ?_, ?_, I2⟩
    · show (match src.at i S with
        | some none => Out.val acc S
        | some (some d) => M.bind (body d) (fun e => lcGoF src body n (i + 1) (match e with | some e => acc ++ [e] | none => acc)) S
        | none => .bad) = _
      rw [ea]
      show M.bind (body ds[i]) _ S = _
      rw [bind_at, e1]
      show lcGoF src body n (i + 1) (match (if b = true then some ds[i] else none) with | some e => acc ++ [e] | none => acc) S1 = _
      cases b with
      | true => exact e2.trans (congrArg (Out.val · S2) (List.append_assoc ..))
      | false => exact e2
    · rw [List.drop_eq_getElem_cons hi]
      cases b with
      | true => exact sub.cons_cons _
      | false => exact sub.cons _
/-- a comprehension's turns, as one -/
abbrev lcfB (cal : Nat → List D → M D) (tg : List Nat) (one : Bool) (c elt : E) (ρ : Sl) : D → M (Option D) := fun d => M.calm (match tgt tg one d (wipeD ρ tg) with
  | some ρ' => M.bind (evE cal c ρ') fun x => M.bind (M.opt (asBool x)) fun k => if k = true then M.bind (evE cal elt ρ') fun z => M.pure (some z) else M.pure none
  | none => M.bad)
theorem lcf_at {cal : Nat → List D → M D} {it : Wi} {tg : List Nat} {one : Bool} {c elt : E} {ρ : Sl} {S S1 : Sto} {src : Src} {n : Nat} (hi : evI cal it ρ S = .val src S1) (hn : src.size S1 = some n) (hl : n ≤ 100000) :
    evL cal (.lcf it tg one c elt) ρ S = lcGoF src (lcfB cal tg one c elt ρ) n 0 [] S1 := by
  refine (show _ = (evI cal it ρ S).then (fun src S1 => match src.size S1 with
    | some n => if n ≤ 100000 then lcGoF src (lcfB cal tg one c elt ρ) n 0 [] S1 else .bad
    | none => .bad) from rfl).trans ?_
  rw [hi]
  show (match src.size S1 with
    | some n => if n ≤ 100000 then lcGoF src (lcfB cal tg one c elt ρ) n 0 [] S1 else .bad
    | none => .bad) = _
  rw [hn]
  exact if_pos hl
theorem lcfB_ok {cal : Nat → List D → M D} {tg : List Nat} {one : Bool} {c elt : E} {ρ ρ' : Sl} {S S1 S2 : Sto} {d z : D} {b : Bool} (h1 : tgt tg one d (wipeD ρ tg) = some ρ') (h2 : evE cal c ρ' S = .val (.p (.bool b)) S1) (h3 : b = true → evE cal elt ρ' S1 = .val z S2) (h4 : b = false → S2 = S1) :
    lcfB cal tg one c elt ρ d S = .val (if b = true then some z else none) S2 := by
  refine calm_val ?_
  rw [h1]
  show M.bind (evE cal c ρ') _ S = _
  rw [bind_at, h2]
  cases b with
  | true =>
    show M.bind (evE cal elt ρ') _ S1 = _
    rw [bind_at, h3 rfl]
    rfl
  | false =>
    rw [h4 rfl]
    rfl
end Ir
set_option Elab.async false
set_option maxRecDepth 100000
set_option maxHeartbeats 4000001
/-! Sets of texts as they are walked, and sorted of them. -/
namespace Ir
open PySem L2 PySem.Spec PyProof.Rows PySem.Froz
theorem len_of_sub {α : Type} [DecidableEq α] : ∀ (l m : List α), l.Nodup → (∀ x ∈ l, x ∈ m) → l.length ≤ m.length
  | [], _, _, _ => Nat.zero_le _
  | x :: l, m, nd, h => by
    obtain ⟨h1, h2⟩ := List.nodup_cons.mp nd
    have hx := h x List.mem_cons_self
    have q := len_of_sub l (m.erase x) h2 fun y hy => (List.mem_erase_of_ne fun e => h1 (by rw [← e]; exact hy)).mpr (h y (List.mem_cons_of_mem _ hy))
    have p := List.length_pos_of_mem hx
    rw [List.length_erase_of_mem hx] at q
    rw [List.length_cons]
    omega
/-- the set of the texts zs at a, whose table can be walked -/
def SetSR (P : Program) (w : World) (h : Heap) (a : Addr) (zs : List Str) : Prop := ∃ (D : SD) (l : List Str), h.get? a = some (sObj "set" D) ∧ TxOk P w D l ∧ l.Nodup ∧ (∀ z, z ∈ l ↔ z ∈ zs) ∧
  Ris D.2.2.place.toList ∧ (w.params.followText "set-order" = true ∨ D.2.2.led = true)
section
variable {P : Program} {w : World} {A : Around} {E : Value → Shared → Prop} {s : Shared} {a : Addr} {h h' : Heap} {zs : List Str}
theorem SetSR.at (R : SetSR P w h a zs) (k : ∀ o, h.get? a = some o → h'.get? a = some o) : SetSR P w h' a zs := by
  obtain ⟨D, l, ho, r⟩ := R
  exact ⟨D, l, k _ ho, r⟩
theorem tail_ris {ep : Nat} {es : Array (Int × Value)} {t : SetTable} {b : Bool} (r : Ris t.place.toList) : Ris (tailTx ep es t b).2.2.place.toList ∧ (tailTx ep es t b).2.2.led = t.led := by
  unfold tailTx
  by_cases c : (!b && t.tooFull) = true
  · rw [if_pos c]
    exact ⟨relayAll_ris t es _, relayAll_led t es _⟩
  · rw [if_neg c]
    exact ⟨r, rfl⟩
theorem add_ris {D : SD} {i : Int} {v : Value} (r : Ris D.2.2.place.toList) : Ris (addTx i v D).2.2.place.toList ∧ (addTx i v D).2.2.led = D.2.2.led := by
  have r1 := layNew_ris D.2.2 D.1 i v r
  have e1 := layNew_led D.2.2 D.1 i v
  unfold addTx
  split
  · obtain ⟨q1, q2⟩ := tail_ris (ep := D.2.1) (es := (layNew D.2.2 D.1 i v).1) (t := { (layNew D.2.2 D.1 i v).2.1 with plain := false }) (b := (layNew D.2.2 D.1 i v).2.2.1) r1
    exact ⟨q1, q2.trans e1⟩
  · obtain ⟨q1, q2⟩ := tail_ris (ep := D.2.1) (es := (layNew D.2.2 D.1 i v).1) (t := (layNew D.2.2 D.1 i v).2.1) (b := (layNew D.2.2 D.1 i v).2.2.1) r1
    exact ⟨q1, q2.trans e1⟩
/-- a text that is there already -/
theorem add_old {T : String} {D : SD} {l : List Str} {k : Str} {u : Tok} {Q : Bool → Shared → Prop} (ho : s.heap.get? a = some (sObj T D)) (F : TxOk P w D l) (hk : k ∈ l) (hb : l.length < scanBound)
    (q : Q false s) : wpAny (model P w) A (setAddHashed a (.str k u) (hashStr w k)) Q E s := by
  obtain ⟨es, ep, t⟩ := D
  have hd : (sObj T (es, ep, t)).data = .set es ep t := rfl
  have hf : t.fits es.size = true := F.fit
  have hel : ElemsOf (strKind P w) es.toList := F.el
  have hz : es.size = l.length := F.sz
  obtain ⟨e, he, hi⟩ := (F.mem k).mp hk
  unfold setAddHashed setAddHashedIn
  refine wpAny_holding (wpAny_bind (wpAny_setState_of ho hd hf ?_))
  dsimp only
  rw [byScan_of rfl (by omega) hel]
  simp only [↓reduceIte]
  unfold setAddByScan
  refine wpAny_bind (wpAny_bind (wpAny_rule (wpAny_bind (wpAny_setScan_of (knd := strKind P w) (k := k) (is_str k u) ho hd hf hel ?_))))
  cases c : List.findIdx? (fun e => (strKind P w).is k e.2) es.toList with
  | none => exact absurd hi (by rw [List.findIdx?_eq_none_iff.mp c e he]; exact Bool.false_ne_true)
  | some j => exact wpAny_pure (wpAny_pure q)
theorem SetSR.add {k : Str} {u : Tok} {Q : Bool → Shared → Prop} (R : SetSR P w s.heap a zs) (hb : zs.length + 1 < scanBound)
    (q : ∀ b h', Heap.SameBut a s.heap h' → SetSR P w h' a (zs ++ [k]) → Q b { s with heap := h' }) : wpAny (model P w) A (setAddHashed a (.str k u) (hashStr w k)) Q E s := by
  obtain ⟨D, l, ho, F, nd, hm, r, hl⟩ := R
  have hle : l.length ≤ zs.length := len_of_sub l zs nd fun z hz => (hm z).mp hz
  by_cases hk : k ∈ l
  · refine add_old ho F hk (by omega) ?_
    have z := q false s.heap (Heap.SameBut.refl a s.heap) ⟨D, l, ho, F, nd, fun z => ?_, r, hl⟩
    · exact z
    · rw [List.mem_append, List.mem_singleton, hm z]
      exact ⟨.inl, fun x => x.elim id fun e => e ▸ (hm k).mp hk⟩
  · refine add_x ho F hk (by omega) ?_
    have r2 := add_ris (i := hashStr w k) (v := .str k u) r
    refine q true _ (Heap.SameBut.update s.heap a _) ⟨addTx (hashStr w k) (.str k u) D, k :: l, get_upd _ ho rfl, add_ok u F, List.nodup_cons.mpr ⟨hk, nd⟩, fun z => ?_, r2.1, hl.imp id fun e => by rw [r2.2]; exact e⟩
    rw [List.mem_append, List.mem_singleton, List.mem_cons, hm z]
    exact Or.comm
theorem SetSR.nil (ho : h.get? a = some (sObj "set" (#[], 0, .fresh 0 0 (!w.params.followText "set-order")))) : SetSR P w h a [] :=
  ⟨_, [], ho, TxOk.nil rfl, List.nodup_nil, fun _ => Iff.rfl, List.Pairwise.nil, by
    show _ ∨ (!w.params.followText "set-order") = true
    cases w.params.followText "set-order"
    · exact .inr rfl
    · exact .inl rfl⟩
end
section
variable {P : Program} {w : World} {A : Around} {R : Result → Shared → Prop} {I : Addr} {fp wr : List Addr} {G : Array GenState → Array GenState → Prop} {n : Nat} {Pv : Nat → Value → Prop} {St : Nat → Shared → Prop}
theorem upd_loop (W : WalksS P w A.in1 I fp wr G n Pv St) (D : Addr) (hD : D ∉ fp) (zs : List Str) (hn : zs.length = n) (hb : n + 1 < scanBound) (hv : ∀ i v, Pv i v → ∃ t, v = .str (zs.getD i Str.empty) t) :
    ∀ (m i : Nat) (s : Shared), n - i = m → i ≤ n → St i s → SetSR P w s.heap D (zs.take i) → (∀ s', Moved (D :: wr) G s s' → SetSR P w s'.heap D zs → R (.ok (.ret .none)) s') →
      codeAny (model P w) A (.builtin "set.update.loop" ⟨[.ref D, .ref I], []⟩) R s
  | 0, i, s, hk, hi, st, S, q => by
    have hw : D ∉ wr := fun z => hD (W.sub _ z)
    have e : i = n := by omega
    subst e
    refine codeAny_builtin PyProof.Rows.F.entry_set_update_loop ?_
    rw [Around.under_plainId PyProof.Rows.F.plain_set_update_loop _]
    refine wpAny_bind (W.done s _ _ st fun s' hm => ?_)
    rw [← hn, List.take_length] at S
    exact wpAny_pure (q s' (hm.mono fun b z => List.mem_cons_of_mem _ z) (S.at fun o ho => hm.heap D o hw ho))
  | m + 1, i, s, hk, hi, st, S, q => by
    have hw : D ∉ wr := fun z => hD (W.sub _ z)
    have lt : i < n := by omega
    refine codeAny_builtin PyProof.Rows.F.entry_set_update_loop ?_
    rw [Around.under_plainId PyProof.Rows.F.plain_set_update_loop _]
    refine wpAny_bind (W.item i s _ _ lt st fun v s' hp st' hm => ?_)
    obtain ⟨t, rfl⟩ := hv i v hp
    have S1 : SetSR P w s'.heap D (zs.take i) := S.at fun o ho => hm.heap D o hw ho
    refine wpAny_bind (wpAny_holding ?_)
    unfold setAdd
    refine wpAny_holding (wpAny_bind ((strKind P w).pyHash (k := zs.getD i Str.empty) (is_str _ _) ?_))
    refine SetSR.add (s := { s' with toks := s'.toks + 1 }) S1 (by rw [List.length_take]; omega) fun b h' sb S2 => ?_
    have e : zs.take i ++ [zs.getD i Str.empty] = zs.take (i + 1) := by
      have hl : i < zs.length := by omega
      rw [List.take_add_one, List.getElem?_eq_getElem hl, List.getD_eq_getElem?_getD, List.getElem?_eq_getElem hl]
      rfl
    rw [e] at S2
    refine wpAny_pure ⟨plainId_quiet PyProof.Rows.F.plain_set_update_loop _, upd_loop W D hD zs hn hb hv m (i + 1) _ (by omega) lt (W.frame _ s' _ _ st' (Nat.le_succ _) fun b hb o e => ?_) S2 fun s2 m2 S3 => ?_⟩
    · rw [sb.2 b fun z : b = D => hD (z ▸ hb)]
      exact e
    · refine q s2 (Moved.trans W.gtrans ((hm.mono fun b z => List.mem_cons_of_mem _ z).then_heap (Nat.le_succ _) fun b o hb e => ?_) m2) S3
      rw [sb.2 b fun z : b = D => hb (by rw [z]; exact List.mem_cons_self)]
      exact e
end
end Ir
set_option Elab.async false
set_option maxRecDepth 100000
set_option maxHeartbeats 4000001
namespace Ir
open PySem L2 PySem.Spec PyProof.Rows PySem.Froz
section
variable {P : Program} {w : World} {A : Around} {E : Value → Shared → Prop} {s : Shared} {a : Addr}
/-- a new set, with its table known -/
theorem new_set1 (v : Value) {Q : Value → Shared → Prop} (h : Q (.ref s.heap.objs.size) { s with heap := s.heap.push (sObj "set" (#[], 0, .fresh 0 0 (!w.params.followText "set-order"))) }) :
    codeAny (model P w) A (.call (.builtin "set.__new__") ⟨[.type "set", v], []⟩) (wants Q E) s := by
  refine codeAny_of_tree (wpAny_bind (wpAny_of_eq (F.newCall_set_1 v) (wpAny_pure ⟨plainId_quiet F.plain_set_new _, codeAny_builtin F.entry_set_new ?_⟩)))
  rw [Around.under_plainId F.plain_set_new _]
  unfold Builtin.«set.__new__» Builtin.Frozenset.newClass
  have sub := sub_set_self
  obtain ⟨hp, g, d, tk, os⟩ := s
  dsimp only
  wp_walk
  refine wpAny_askSetting (wpAny_pure ?_)
  dsimp only
  simp only [newObj]
  exact wpAny_bind (wpAny_alloc (wpAny_pure (wpAny_pure h)))
/-- set(xs), xs a list of texts -/
theorem set_texts {l : Addr} {its : Array Value} {zs : List Str} {Q : Value → Shared → Prop} (hh : A.handled = none) (hl : s.heap.IsList l its) (hi : StrsAre its.toList zs) (hb : zs.length + 1 < scanBound)
    (q : ∀ (h' : Heap) (tk : Nat), SetSR P w h' s.heap.objs.size zs → (∀ b o, b < s.heap.objs.size → s.heap.get? b = some o → h'.get? b = some o) → Q (.ref s.heap.objs.size) { s with heap := h', toks := tk }) :
    wpAny (model P w) A (call (.type "set") [.ref l]) Q E s := by
  obtain ⟨c, tl, hmro⟩ := PySem.F.called_set.mro
  have hmade := PySem.F.called_set.made
  have hsub := PySem.F.called_set.sub
  refine wpAny_call (codeAny_of_tree (show wpAny _ _ (callAny (.type "set") _) _ _ _ from wpAny_pure ⟨Code.quiet_builtin _ (by decide +kernel), codeAny_builtin PySem.F.entry_type_call ?_⟩))
  rw [Around.under_plain (weight_type_call_type "set" [.ref l] []) rfl]
  have h1 := PySem.F.called_set.notType
  have h2 := PySem.F.called_set.canCreate
  have hct := PySem.F.typeCall_set_1 (.ref l)
  repeat (any_goals (first | assumption | wp_step))
  refine codeAny_mono (new_set1 (.ref l) (E := E) (Q := fun o s1 => o = .ref s.heap.objs.size ∧ s1 = { s with heap := s.heap.push (sObj "set" (#[], 0, .fresh 0 0 (!w.params.followText "set-order"))) }) ⟨rfl, rfl⟩) fun r s1 hr => ?_
  generalize hT : (!w.params.followText "set-order") = led at hr
  match r, hr with
  | .error e, hr => exact hr
  | .ok (.ret o), hr =>
    obtain ⟨rfl, rfl⟩ := hr
    have at0 : (s.heap.push ({ cls := .type "set", dict := none, data := .set #[] 0 (.fresh 0 0 led) } : Obj)).get? s.heap.objs.size = some ({ cls := .type "set", dict := none, data := .set #[] 0 (.fresh 0 0 led) } : Obj) := Heap.get?_push_size _ rfl
    have ty : Shared.TypeIs { s with heap := s.heap.push ({ cls := .type "set", dict := none, data := .set #[] 0 (.fresh 0 0 led) } : Obj) } (.ref s.heap.objs.size) "set" := ⟨_, at0, rfl⟩
    have hli := PySem.F.called_set.init.lookup
    have hbi := PySem.F.called_set.init.bind (.ref s.heap.objs.size)
    repeat (any_goals (first | assumption | wp_step))
    refine codeAny_mono (codeAny_call_builtin (R := wants (fun r s2 => r = .none ∧ ∃ h' tk, s2 = { s with heap := h', toks := tk } ∧ SetSR P w h' s.heap.objs.size zs ∧
      (∀ b o, b < s.heap.objs.size → s.heap.get? b = some o → h'.get? b = some o)) E) PySem.F.called_set.init.plain PySem.F.entry_set_init (check_set_init_1 ty ?_)) fun r2 s2 hr2 => ?_
    · obtain ⟨ol, hol, hcl, nl, hdl⟩ := hl
      obtain ⟨oc, od, ot, os⟩ := ol
      simp only at hcl hdl
      subst hcl; subst hdl
      have hol' := Heap.get?_push_of_some ({ cls := .type "set", dict := none, data := .set #[] 0 (.fresh 0 0 led) } : Obj) hol
      have e1 := PySem.F.sub_list_set
      have e2 := PySem.F.sub_list_frozenset
      have e3 : (Value.type "list" == Value.type "dict") = false := by decide
      have hl1 : (s.heap.push ({ cls := .type "set", dict := none, data := .set #[] 0 (.fresh 0 0 led) } : Obj)).IsList l its := ⟨_, hol', rfl, nl, rfl⟩
      unfold Builtin.«set.__init__» noKeywords Builtin.Frozenset.updateFrom
      generalize hPI : pyIter = PI
      wp_walk
      subst hPI
      refine wpAny_pyIter_list hl1 ?_
      refine wpAny_bind (wpAny_runValue ?_)
      have lt : l < s.heap.objs.size := Heap.lt_size hol
      have h3 : A.in1.in1.in1.handled = none := by simp [hh]
      have ne : l ≠ (s.heap.push ({ cls := .type "set", dict := none, data := .set #[] 0 (.fresh 0 0 led) } : Obj)).objs.size := by rw [Heap.size_push]; exact Nat.ne_of_lt (Nat.lt_succ_of_lt lt)
      have hsz : its.size = zs.length := by rw [← StrsAre.len_eq hi, Array.length_toList]
      refine upd_loop (zs := zs) ((Walks.list h3 _ l ne its).toS) s.heap.objs.size ?nin hsz.symm (by rw [hsz]; exact hb) (fun i v hv => SS.strs_at hi i v (by rw [Array.getElem?_toList]; exact hv)) (its.size - 0) 0 _ (by omega) (Nat.zero_le _)
        ⟨⟨_, Heap.get?_push_size _ rfl, rfl, rfl⟩, hl1.push _⟩ ?first ?rest
      case nin =>
        rw [Heap.size_push, List.mem_cons, List.mem_singleton]
        exact fun z => z.elim (fun e => absurd e (Nat.ne_of_lt (Nat.lt_succ_self _))) fun e => absurd e (Nat.ne_of_gt lt)
      case first =>
        rw [List.take_zero]
        exact SetSR.nil (Heap.get?_push_of_some _ (by rw [hT]; exact at0))
      case rest =>
        intro s' hm S
        obtain ⟨h', g', d', tk', o'⟩ := s'
        obtain rfl : g' = s.gens := hm.gens
        obtain rfl : d' = s.drawn := hm.drawn
        obtain rfl : o' = s.os := hm.os
        refine wpAny_pure ?_
        show wpAny _ _ (ret Value.none) _ _ _
        refine wpAny_pure ⟨rfl, h', tk', rfl, S, fun b o hb e => hm.heap b o ?_ (Heap.get?_push_of_some _ (Heap.get?_push_of_some _ e))⟩
        rw [Heap.size_push, List.mem_cons, List.mem_singleton]
        exact fun z => z.elim (fun e => absurd e (Nat.ne_of_lt hb)) fun e => absurd e (Nat.ne_of_lt (Nat.lt_succ_of_lt hb))
    · match r2, hr2 with
      | .error e, hr2 => exact hr2
      | .ok (.ret r), hr2 =>
        obtain ⟨rfl, h', tk, rfl, S, hk⟩ := hr2
        repeat (any_goals (first | assumption | wp_step))
        exact q _ _ S hk
end
end Ir
set_option Elab.async false
set_option maxRecDepth 100000
set_option maxHeartbeats 4000001
namespace Ir
open PySem L2 PySem.Spec PyProof.Rows PySem.Froz
/-! ### texts in order -/
def insS (x : Str) : List Str → List Str
  | [] => [x]
  | y :: r => if ltCps y.cps.toList x.cps.toList = true then y :: insS x r else x :: y :: r
def sortS : List Str → List Str
  | [] => []
  | x :: r => insS x (sortS r)
abbrev Lo (a b : Str) : Prop := ltCps b.cps.toList a.cps.toList = false
theorem lo_of {a b : Str} : Lo a b ↔ ¬ b.cps.toList < a.cps.toList := by
  unfold Lo
  rw [ltCps_eq]
  simp
theorem lo_trans {a b c : Str} (h : Lo a b) (h2 : Lo b c) : Lo a c := by
  rw [lo_of] at *
  exact List.le_trans (α := Nat) h h2
theorem lo_total (a b : Str) : Lo a b ∨ Lo b a := by
  rw [lo_of, lo_of]
  exact List.le_total (α := Nat) a.cps.toList b.cps.toList
theorem lo_anti {a b : Str} (h : Lo a b) (h2 : Lo b a) : a = b := by
  rw [lo_of] at *
  have e : a.cps.toList = b.cps.toList := List.le_antisymm (α := Nat) h h2
  cases a
  cases b
  congr 1
  exact Array.toList_inj.mp e
theorem insS_perm (x : Str) : ∀ l, (insS x l).Perm (x :: l)
  | [] => List.Perm.refl _
  | y :: r => by
    unfold insS
    split
    · exact ((insS_perm x r).cons y).trans (List.Perm.swap x y r)
    · exact List.Perm.refl _
theorem sortS_perm : ∀ l, (sortS l).Perm l
  | [] => List.Perm.refl _
  | x :: r => (insS_perm x _).trans ((sortS_perm r).cons x)
theorem insS_low {x : Str} : ∀ {l : List Str}, l.Pairwise Lo → (insS x l).Pairwise Lo
  | [], _ => List.pairwise_singleton _ _
  | y :: r, h => by
    obtain ⟨h1, h2⟩ := List.pairwise_cons.mp h
    unfold insS
    split
    · rename_i c
      refine List.pairwise_cons.mpr ⟨fun z hz => ?_, insS_low h2⟩
      rcases List.mem_cons.mp ((insS_perm x r).mem_iff.mp hz) with e | e
      · rw [e]
        rcases lo_total y x with q | q
        · exact q
        · exact absurd c (by rw [show ltCps y.cps.toList x.cps.toList = false from q]; exact Bool.false_ne_true)
      · exact h1 z e
    · rename_i c
      have q : Lo x y := by
        show ltCps y.cps.toList x.cps.toList = false
        cases e : ltCps y.cps.toList x.cps.toList with
        | false => rfl
        | true => exact absurd e c
      refine List.pairwise_cons.mpr ⟨fun z hz => ?_, h⟩
      rcases List.mem_cons.mp hz with e | e
      · rw [e]; exact q
      · exact lo_trans q (h1 z e)
theorem sortS_low : ∀ l, (sortS l).Pairwise Lo
  | [] => List.Pairwise.nil
  | _ :: r => insS_low (sortS_low r)
theorem rising_low : ∀ (p : Str) (l : List Str), risingS p l = true → (p :: l).Pairwise Lo
  | p, [], _ => List.pairwise_singleton _ _
  | p, x :: r, h => by
    have h : (!ltCps x.cps.toList p.cps.toList && risingS x r) = true := h
    rw [Bool.and_eq_true, Bool.not_eq_true'] at h
    have q := rising_low x r h.2
    refine List.pairwise_cons.mpr ⟨fun z hz => ?_, q⟩
    rcases List.mem_cons.mp hz with e | e
    · rw [e]; exact h.1
    · exact lo_trans h.1 ((List.pairwise_cons.mp q).1 z e)
theorem sorted_low : ∀ {l : List Str}, sortedS l = true → l.Pairwise Lo
  | [], _ => List.Pairwise.nil
  | x :: r, h => rising_low x r h
/-- the arrangement by the order is one alone -/
theorem sortS_only {ys zs : List Str} (p : ys.Perm zs) (s : sortedS ys = true) : ys = sortS zs :=
  (p.trans (sortS_perm zs).symm).eq_of_pairwise (fun _ _ _ _ h h2 => lo_anti h h2) (sorted_low s) (sortS_low zs)
theorem unlike_mem {z : Str} : ∀ {l : List Str}, z ∈ unlike l ↔ z ∈ l
  | [] => Iff.rfl
  | x :: r => by
    unfold unlike
    split
    · rename_i c
      rw [unlike_mem, List.mem_cons]
      exact ⟨.inr, fun h => h.elim (fun e => e ▸ c) id⟩
    · rw [List.mem_cons, List.mem_cons, unlike_mem]
theorem unlike_nd : ∀ l : List Str, (unlike l).Nodup
  | [] => List.nodup_nil
  | x :: r => by
    unfold unlike
    split
    · exact unlike_nd r
    · rename_i c
      exact List.nodup_cons.mpr ⟨fun h => c (unlike_mem.mp h), unlike_nd r⟩
theorem perm_unlike {l zs : List Str} (nd : l.Nodup) (h : ∀ z, z ∈ l ↔ z ∈ zs) : l.Perm (unlike zs) :=
  (List.perm_ext_iff_of_nodup nd (unlike_nd zs)).mpr fun z => (h z).trans unlike_mem.symm
/-! ### over the layer -/
def SetSO (P : Program) (w : World) (a : Addr) (zs : List Str) : HO := .ext fun h => SetSR P w h a zs
section
variable {X : Cx}
theorem setSO_new {w : World} {P : Program} {H : Hp} {h : Heap} {a : Addr} {zs : List Str} (R : SetSR P w h a zs) : ObjOk P w H h a (SetSO P w a zs) := by
  have ⟨D, l, ho, _⟩ := R
  exact ⟨R, ⟨_, ho⟩, fun h1 h2 p k => SetSR.at p k⟩
theorem setSO_get {pins : List (Addr × Obj)} {σ : L2.St} {H : Hp} {s : Shared} {a : Addr} {zs : List Str} (I : Inv X pins σ H s) (ha : H a = some (SetSO X.prog X.w a zs)) : SetSR X.prog X.w s.heap a zs := (I.hok a _ ha).1
/-- set(xs), xs a list of texts -/
def rSetS (K : PySem.W.Frag) (P : Program) (w : World) : List V → Hp → VK → Prop := fun xs H Q => ∃ (b : Addr) (zs : List Str), xs = [.ref b] ∧ SqL K H b (zs.map V.str) ∧ zs.length + 1 < scanBound ∧ ∀ p, H p = none → Q (.ref p) (upd H p (SetSO P w p zs))
theorem call_setS (hc : X.calm = true) : CallR X (.type "set") (rSetS X.K X.prog X.w) := by
  intro pins s σ H xs us Q I r h
  obtain ⟨b, zs, rfl, hq, hb, q⟩ := h
  obtain ⟨its, rv, hl, _⟩ := I.list hq
  rw [Vals.ref1 r]
  refine set_texts (I.ok.hd hc) hl.isList (by simpa using strsAre_of rv) hb fun h' tk S hk => ?_
  have hn : H s.heap.objs.size = none := I.hok.fresh (Nat.le_refl _)
  exact ⟨.ref _, upd H s.heap.objs.size (SetSO X.prog X.w s.heap.objs.size zs), I.laid (t' := tk) (fun b u e => hk b u (Heap.lt_size e) e) (Nat.le_refl _) (setSO_new S), rfl, q _ hn⟩
/-- sorted of such a set, fewer than 64 texts -/
def rSortSet (P : Program) (w : World) : List V → Hp → VK → Prop := fun xs H Q => ∃ (b : Addr) (zs : List Str), xs = [.ref b] ∧ H b = some (SetSO P w b zs) ∧ zs.length < 64 ∧ ∀ p, H p = none → Q (.ref p) (upd H p (.lst ((sortS (unlike zs)).map V.str)))
end
end Ir
set_option Elab.async false
set_option maxRecDepth 100000
set_option maxHeartbeats 4000001
namespace Ir
open PySem L2 PySem.Spec PyProof.Rows PySem.Froz
def strV : Value → Str
  | .str z _ => z
  | _ => Str.empty
theorem strsAre_all : ∀ {vs : List Value}, (∀ v ∈ vs, ∃ z t, v = Value.str z t) → StrsAre vs (vs.map strV)
  | [], _ => .nil
  | v :: r, h => by
    obtain ⟨z, t, rfl⟩ := h v List.mem_cons_self
    exact .cons z t (strsAre_all fun u hu => h u (List.mem_cons_of_mem _ hu))
/-- the members of the table, as texts -/
theorem texts_of {P : Program} {w : World} {D : SD} {l : List Str} (F : TxOk P w D l) (nd : l.Nodup) : (∀ v ∈ D.1.toList.map (·.2), ∃ z t, v = Value.str z t) ∧ ((D.1.toList.map (·.2)).map strV).Perm l := by
  have ha : ∀ e ∈ D.1.toList, ∃ z t, e.2 = Value.str z t := fun e he => by
    obtain ⟨⟨k, hk, _⟩, _⟩ := F.el e he
    obtain ⟨t, ev⟩ := Value.isStrOf_shape (x := k) (v := e.2) hk
    exact ⟨k, t, ev⟩
  refine ⟨fun v hv => ?_, ?_⟩
  · obtain ⟨e, he, rfl⟩ := List.mem_map.mp hv
    exact ha e he
  · have hm : ∀ z, z ∈ (D.1.toList.map (·.2)).map strV ↔ z ∈ l := fun z => by
      rw [F.mem z, List.map_map, List.mem_map]
      constructor
      · rintro ⟨e, he, q⟩
        obtain ⟨y, t, ev⟩ := ha e he
        refine ⟨e, he, ?_⟩
        have q : strV e.2 = z := q
        rw [ev] at q
        rw [ev, show z = y from q.symm]
        exact is_str y t
      · rintro ⟨e, he, q⟩
        obtain ⟨t, ev⟩ := Value.isStrOf_shape (x := z) (v := e.2) q
        exact ⟨e, he, by show strV e.2 = z; rw [ev]; rfl⟩
    have hl : ((D.1.toList.map (·.2)).map strV).length = l.length := by
      rw [List.length_map, List.length_map, Array.length_toList]
      exact F.sz
    exact (perm_of_len hm hl nd)
where
  perm_of_len {m l : List Str} (h : ∀ z, z ∈ m ↔ z ∈ l) (hl : m.length = l.length) (nd : l.Nodup) : m.Perm l := by
    have key : ∀ (l m : List Str), l.Nodup → (∀ z ∈ l, z ∈ m) → m.length ≤ l.length → l.Perm m := by
      intro l
      induction l with
      | nil => intro m _ _ h; rw [List.eq_nil_of_length_eq_zero (Nat.le_zero.mp h)]
      | cons x r ih =>
        intro m nd h hl
        obtain ⟨h1, h2⟩ := List.nodup_cons.mp nd
        have hx := h x List.mem_cons_self
        have p := ih (m.erase x) h2 (fun y hy => (List.mem_erase_of_ne fun e => h1 (by rw [← e]; exact hy)).mpr (h y (List.mem_cons_of_mem _ hy))) (by
          rw [List.length_erase_of_mem hx]
          rw [List.length_cons] at hl
          omega)
        exact (p.cons x).trans (List.perm_cons_erase hx).symm
    exact (key l m nd (fun z hz => (h z).mpr hz) (Nat.le_of_eq hl)).symm
section
variable {X : Cx}
theorem call_sortSet (hc : X.calm = true) : CallR X (.builtin "sorted") (rSortSet X.prog X.w) := by
  intro pins s σ H xs us Q I r h
  obtain ⟨b, zs, rfl, ha, h64, q⟩ := h
  obtain ⟨D, l, ho, F, nd, hm, ris, hl⟩ := setSO_get I ha
  obtain ⟨es, ep, t⟩ := D
  rw [Vals.ref1 r]
  have hz : es.size = l.length := F.sz
  have hle : l.length ≤ zs.length := len_of_sub l zs nd fun z h => (hm z).mp h
  obtain ⟨ht, pt⟩ := texts_of F nd
  have pu := perm_unlike nd hm
  refine Calls.call_function_entry PyProof.Rows.kind_sorted PyProof.Rows.plain_sorted PyProof.Rows.entry_sorted (PyProof.Rows.args_sorted1 _) ?_
  unfold Builtin.«sorted»
  refine wpAny_bind (m := checkCount "sorted" 1 1 _) (wpAny_pure ?_)
  refine wpAny_bind (collect_set (A := X.A.in1) (I.ok.hd hc) ⟨_, ho, rfl, rfl⟩ F.fit (show es.size < scanBound by rw [hz]; exact Nat.lt_of_le_of_lt hle (Nat.lt_of_lt_of_le h64 (by decide))) ris hl fun s1 vs k1 hs1 g1 o1 pm => ?_)
  have hv : vs.length < 64 := by
    rw [pm.length_eq, List.length_map, Array.length_toList, hz]
    omega
  have hS : StrsAre vs (vs.map strV) := strsAre_all fun v hv => ht v (pm.mem_iff.mp hv)
  have pv : (vs.map strV).Perm (unlike zs) := (pm.map strV).trans (pt.trans pu)
  refine wpAny_bind (wpAny_newList ?_ (by rw [sizeLine_eq]; omega))
  have hoL : (s1.heap.push (seqObj "list" vs.toArray 0)).get? s1.heap.objs.size = some (seqObj "list" vs.toArray 0) := Heap.get?_push_size _ rfl
  refine wpAny_bind (wpAny_holding (wpAny_call_entry PyProof.Rows.slot_list_sort ⟨_, hoL, rfl⟩ PyProof.Rows.entry_list_sort
    (list_sort_treeK strKind_oneLt hoL hS.keysOf (fun v₁ v₂ rest e => keyKind_strs (by rw [← e]; exact hS)) hv fun st' hp hs => ⟨_, rfl, ?_⟩) (PyProof.Rows.args_list_sort _)))
  obtain ⟨ys, a1, a2, a3⟩ := sorted_out_str hS hp hs
  obtain ⟨e', he'⟩ := PyProof.Rows.sortedHeap_at (vs := vs) (out := (arrOf st').map (·.2)) hoL
  have hy := sortS_only (a2.trans pv) a3
  subst hy
  have hn : H s1.heap.objs.size = none := I.hok.fresh hs1
  have old : ∀ c u, s.heap.get? c = some u → (sortedHeap (s1.heap.push (seqObj "list" vs.toArray 0)) s1.heap.objs.size vs ((arrOf st').map (·.2))).get? c = some u := fun c u e => by
    have z := k1 c u e
    have lt := Heap.lt_size z
    rw [sortedHeap_old (Nat.ne_of_lt lt) (by rw [size_push']; exact Nat.lt_succ_of_lt lt)]
    exact Heap.get?_push_of_some _ z
  have hlen : ((sortS (unlike zs)).map V.str).length ≤ sizeLine := by
    rw [List.length_map, a2.length_eq, List.length_map, sizeLine_eq]
    omega
  have J : Inv X pins σ (upd H s1.heap.objs.size (.lst ((sortS (unlike zs)).map V.str))) { s with heap := sortedHeap (s1.heap.push (seqObj "list" vs.toArray 0)) s1.heap.objs.size vs ((arrOf st').map (·.2)), gens := s1.gens, drawn := s1.drawn, toks := s1.toks } :=
    I.call (ch := []) (Un.laid old hs1 hn) (I.hok.laid old hs1 ⟨hlen, ((arrOf st').map (·.2)).toList, e', vals_of_strs a1, by rw [Array.toArray_toList]; exact he'⟩) (by rw [g1]; exact I.bare) (fun _ z => nomatch z)
  have e : s1 = { s with heap := s1.heap, gens := s1.gens, drawn := s1.drawn, toks := s1.toks } := by
    cases s1
    cases s
    cases o1
    rfl
  refine wpAny_pure ⟨_, rfl, .ref s1.heap.objs.size, upd H s1.heap.objs.size (.lst ((sortS (unlike zs)).map V.str)), ?_, rfl, q _ hn⟩
  have J2 := J
  rw [show s.os = s1.os from o1.symm] at J2
  exact J2
end
end Ir
set_option Elab.async false
set_option maxRecDepth 100000
set_option maxHeartbeats 4000001
namespace Ir
open PySem L2 PySem.Spec PyProof.Rows PySem.Froz
/-- sorted(set(x)), x a list of fewer than 64 texts -/
def srtD (S : Sto) (x : D) : Option (List D) := (lstAt S x).bind fun ds => (plainOf ds).bind fun ps => (strsOf ps).bind fun zs => if zs.length < 64 then some ((sortS (unlike zs)).map fun z => .p (.str z)) else none
theorem strs_tl2 {K : PySem.W.Frag} {ph : Nat → Option Addr} {α : List Addr} {H : Hp} : ∀ zs : List Str, TlA K ph α H (zs.map fun z => .p (.str z)) (zs.map V.str)
  | [] => .nil
  | z :: r => .cons (.str z) (strs_tl2 r)
section
variable {X : Cx} {g : Gc} {W : WX} {cal : Nat → List D → M D} {pos : Pos}
theorem l_srt {a : Expr} {ia : E} {p p2 q2 : Pos} (hc : X.calm = true) (hK : X.K = g.K) (hm : X.mg "sorted" = none) (hm2 : X.mg "set" = none) (ha : PE X a (rE g W (evE cal ia))) (hg : Gl X "sorted" := by rfl) (hg2 : Gl X "set" := by rfl) (hs : starEach [a] X.env = (false, eval a X.env) :: starEach [] X.env := by rfl) :
    PE X (.Call (.Name "sorted" p) [.Call (.Name "set" p2) [a] [] q2] [] pos) (rLn g W (evL cal (.op1 srtD ia))) := by
  have c1 := call_setS (X := X) hc
  rw [hK] at c1
  refine pe_imp (pe_callB (call_sortSet hc) hg hm (by decide +kernel) (pa_cons (pe_callTy c1 hg2 hm2 (by decide +kernel) (pa_cons ha pa_nil hs) (he := hs)) pa_nil)) fun σ H Q h => ?_
  obtain ⟨α, S, ρ, a0, r, w⟩ := h
  have w : wp (M.bind (evE cal ia ρ) (fun x => fun S => M.opt (srtD S x) S) S) _ _ := w
  refine ⟨α, S, ρ, a0, r, wp_mono (wp_bind w) (fun x S1 h1 α1 H1 e1 a1 v tv => ?_) fun _ _ z => z⟩
  cases e : srtD S1 x with
  | none => simp only [M.opt, e] at h1; exact h1.elim
  | some ds =>
    simp only [M.opt, e] at h1
    unfold srtD at e
    obtain ⟨es, q1, e⟩ := Option.bind_eq_some_iff.mp e
    obtain ⟨ps, q3, e⟩ := Option.bind_eq_some_iff.mp e
    obtain ⟨zs, q4, e⟩ := Option.bind_eq_some_iff.mp e
    by_cases h64 : zs.length < 64
    · rw [if_pos h64] at e
      cases e
      obtain ⟨b, xs, rfl, h2, h3⟩ := lst_at a1 tv q1
      have ex := strs_tp (TlA.plain h3 q3) q4
      subst ex
      refine ⟨b, zs, rfl, SqL.of h2, Nat.lt_of_le_of_lt (show zs.length + 1 ≤ 64 from h64) (by decide), fun d hd => ?_⟩
      obtain ⟨e2, a2⟩ := At.fresh a1 hd (u := SetSO X.prog X.w d zs)
      refine ⟨d, zs, rfl, upd_same, h64, fun l hl => ?_⟩
      obtain ⟨e3, a3⟩ := At.fresh a2 hl (u := .lst ((sortS (unlike zs)).map V.str))
      exact h1 α1 _ ((e1.trans e2).trans e3) a3 l _ ((e1.trans e2).none a2 hl) (a2.notin hl) upd_same (strs_tl2 _)
    · rw [if_neg h64] at e
      cases e
end
end Ir
set_option Elab.async false
set_option maxRecDepth 100000
set_option maxHeartbeats 4000001
/-! The text of the law by my small language: made by gen.py from the linked text. -/
namespace Ir.K26
open PySem L2 PySem.Spec PyProof.Rows
def top (i : Nat) : Stmt := PySem.Challenge.pw_strangemill_k26_whole_marks.main.body.getD i (.Pass ⟨0, 0, 0, 0⟩)
/-- covers -/
def b0 : Ss := (.cons (.ite (.or (.cmp .eq (.var 0) (.cst (.p (.str "any")))) (.cmp .eq (.var 0) (.var 1))) (.cons (.ret (.cst (.p (.bool true))))
    .nil) .nil)
    (.cons (.ret (.and (.isi (.var 0) .tuple) (.and (.isi (.var 1) .tuple) (.all (.lc (.tup (.var 0)) [2] true (.cmp .in_ (.var 2) (.var 1)))))))
    .nil))
/-- in_common -/
def b1 : Ss := (.cons (.ite (.cmp .eq (.var 0) (.var 1)) (.cons (.ret (.var 0))
    .nil) .nil)
    (.cons (.ite (.and (.isi (.var 0) .tuple) (.isi (.var 1) .tuple)) (.cons (.ret (.tupOf (.lst (.lcf (.tup (.var 0)) [2] true (.cmp .in_ (.var 2) (.var 1)) (.var 2)))))
    .nil) .nil)
    (.cons (.ret (.cst (.p (.str "any"))))
    .nil)))
/-- _law_draw -/
def b2 : Ss := (.cons (.setI (.var 0) (.cst (.p (.int 2))) (.bin .add (.idx (.var 0) (.cst (.p (.int 2)))) (.cst (.p (.int 1)))))
    (.cons (.ite (.and (.cmp .eq (.idx (.var 0) (.cst (.p (.int 1)))) (.cst (.p (.int 0)))) (.eqL true (.idx (.var 0) (.cst (.p (.int 0)))) (.disp .nil))) (.cons (.setI (.var 0) (.cst (.p (.int 1))) (.popAt (.idx (.var 0) (.cst (.p (.int 0)))) (.cst (.p (.int 0)))))
    (.cons (.ite (.cmp .lt (.idx (.var 0) (.cst (.p (.int 1)))) (.bin .pow (.cst (.p (.int 10))) (.cst (.p (.int 18))))) (.cons (.setI (.var 0) (.cst (.p (.int 3))) (.bin .mod (.bin .add (.bin .mul (.idx (.var 0) (.cst (.p (.int 3)))) (.cst (.p (.int 39373)))) (.idx (.var 0) (.cst (.p (.int 1))))) (.cst (.p (.int 2147483647)))))
    (.cons (.setI (.var 0) (.cst (.p (.int 1))) (.cst (.p (.int 0))))
    .nil)) .nil)
    .nil)) .nil)
    (.cons (.ite (.cmp .gt (.idx (.var 0) (.cst (.p (.int 1)))) (.cst (.p (.int 0)))) (.cons (.asg 2 (.bin .mod (.idx (.var 0) (.cst (.p (.int 1)))) (.var 1)))
    (.cons (.setI (.var 0) (.cst (.p (.int 1))) (.bin .fdiv (.idx (.var 0) (.cst (.p (.int 1)))) (.var 1)))
    (.cons (.ret (.var 2))
    .nil))) .nil)
    (.cons (.asg 2 (.bin .mod (.bin .pow (.bin .add (.bin .add (.idx (.var 0) (.cst (.p (.int 3)))) (.bin .mul (.cst (.p (.int 7919))) (.idx (.var 0) (.cst (.p (.int 2)))))) (.cst (.p (.int 104729)))) (.cst (.p (.int 5)))) (.cst (.p (.int 2147483647)))))
    (.cons (.ret (.bin .mod (.bin .mod (.bin .mul (.bin .add (.var 2) (.idx (.var 0) (.cst (.p (.int 2))))) (.cst (.p (.int 48271)))) (.cst (.p (.int 2147483629)))) (.var 1)))
    .nil)))))
/-- _law_covers -/
def b3 : Ss := (.cons (.ite (.or (.not (.isi (.var 0) .tuple)) (.not (.isi (.var 1) .tuple))) (.cons (.ret (.or (.cmp .eq (.var 0) (.cst (.p (.str "any")))) (.cmp .eq (.var 0) (.var 1))))
    .nil) .nil)
    (.cons (.ret (.all (.lc (.tup (.var 0)) [2] true (.cmp .in_ (.var 2) (.var 1)))))
    .nil))
/-- _law_common -/
def b4 : Ss := (.cons (.ite (.and (.isi (.var 0) .tuple) (.isi (.var 1) .tuple)) (.cons (.ret (.tupOf (.lst (.lcf (.tup (.var 0)) [2] true (.cmp .in_ (.var 2) (.var 1)) (.var 2)))))
    .nil) .nil)
    (.cons (.ret (.idxL (.disp (.cons (.cst (.p (.str "any"))) (.cons (.var 0) .nil))) (.toInt (.cmp .eq (.var 0) (.var 1)))))
    .nil))
/-- _law_drawn_mark -/
def b5 : Ss := (.cons (.asg 2 (.call 2 (.cons (.var 0) (.cons (.cst (.p (.int 5))) .nil))))
    (.cons (.ite (.cmp .lt (.var 2) (.cst (.p (.int 2)))) (.cons (.ret (.idxL (.disp (.cons (.cst (.p (.str "any"))) (.cons (.cst (.p (.str "num"))) .nil))) (.var 2)))
    .nil) .nil)
    (.cons (.ret (.tupOf (.lst (.lcf (.lst (.var 1)) [3] true (.cmp .gt (.call 2 (.cons (.var 0) (.cons (.cst (.p (.int 3))) .nil))) (.cst (.p (.int 0)))) (.var 3)))))
    .nil)))
/-- law -/
def b6 : Ss := (.cons (.asg 1 (.lst (.disp (.cons (.lst (.of (.var 0))) (.cons (.cst (.p (.int 0))) (.cons (.cst (.p (.int 0))) (.cons (.cst (.p (.int 0))) .nil)))))))
    (.cons (.asg 2 (.cst (.p (.str "ABCDEFGHIJKLMNOPQRSTUVWXYZ"))))
    (.cons (.asg 3 (.lst (.lc (.rng (.call 2 (.cons (.var 1) (.cons (.cst (.p (.int 10))) .nil)))) [11] true (.bin .add (.idx (.var 2) (.call 2 (.cons (.var 1) (.cons (.cst (.p (.int 26))) .nil)))) (.idx (.cst (.p (.str "abz09"))) (.call 2 (.cons (.var 1) (.cons (.cst (.p (.int 5))) .nil))))))))
    (.cons (.asg 3 (.lst (.op1 srtD (.var 3))))
    (.cons (.asg 4 (.lst (.lc (.rng (.cst (.p (.int 3)))) [11] true (.call 5 (.cons (.var 1) (.cons (.var 3) .nil))))))
    (.cons (.for_ (.lst (.var 4)) [5] true (.cons (.for_ (.lst (.var 4)) [6] true (.cons (.asg 7 (.call 1 (.cons (.var 5) (.cons (.var 6) .nil))))
    (.cons (.ite (.or (.cmp .ne (.var 7) (.call 4 (.cons (.var 5) (.cons (.var 6) .nil)))) (.cmp .ne (.isi (.var 7) .str) (.isi (.call 4 (.cons (.var 5) (.cons (.var 6) .nil))) .str))) (.cons (.ret (.cst (.p (.bool false))))
    .nil) .nil)
    (.cons (.ite (.or (.cmp .ne (.var 7) (.call 1 (.cons (.var 6) (.cons (.var 5) .nil)))) (.cmp .ne (.call 0 (.cons (.var 5) (.cons (.var 6) .nil))) (.call 3 (.cons (.var 5) (.cons (.var 6) .nil))))) (.cons (.ret (.cst (.p (.bool false))))
    .nil) .nil)
    (.cons (.asg 8 (.and (.call 0 (.cons (.var 7) (.cons (.var 5) .nil))) (.call 0 (.cons (.var 7) (.cons (.var 6) .nil)))))
    (.cons (.asg 9 (.lst (.lcf (.lst (.var 4)) [12] true (.and (.call 0 (.cons (.var 12) (.cons (.var 5) .nil))) (.call 0 (.cons (.var 12) (.cons (.var 6) .nil)))) (.var 12))))
    (.cons (.ite (.or (.not (.var 8)) (.not (.all (.lc (.lst (.var 9)) [12] true (.call 0 (.cons (.var 12) (.cons (.var 7) .nil))))))) (.cons (.ret (.cst (.p (.bool false))))
    .nil) .nil)
    .nil)))))))
    .nil))
    (.cons (.asg 10 (.call 1 (.cons (.call 1 (.cons (.idx (.var 4) (.cst (.p (.int 0)))) (.cons (.idx (.var 4) (.cst (.p (.int 1)))) .nil))) (.cons (.idx (.var 4) (.cst (.p (.int 2)))) .nil))))
    (.cons (.ret (.cmp .eq (.var 10) (.call 1 (.cons (.idx (.var 4) (.cst (.p (.int 0)))) (.cons (.call 1 (.cons (.idx (.var 4) (.cst (.p (.int 1)))) (.cons (.idx (.var 4) (.cst (.p (.int 2)))) .nil))) .nil)))))
    .nil))))))))
def fns : List Fn := [⟨2, 3, b0⟩, ⟨2, 3, b1⟩, ⟨2, 3, b2⟩, ⟨2, 3, b3⟩, ⟨2, 3, b4⟩, ⟨2, 4, b5⟩, ⟨1, 13, b6⟩]
def fs (i : Nat) : Option Fn := fns[i]?
structure Txt (g : Gc) (w : World) (mg : Str → Option Value) (a : Nat → Addr) : Prop where
  ph : ∀ i f, g.ph i = some f → i < 7 ∧ f = a i
  p0 : g.ph 0 = some (a 0)
  m0 : mg "covers" = some (.ref (a 0))
  p1 : g.ph 1 = some (a 1)
  m1 : mg "in_common" = some (.ref (a 1))
  p2 : g.ph 2 = some (a 2)
  m2 : mg "_law_draw" = some (.ref (a 2))
  p3 : g.ph 3 = some (a 3)
  m3 : mg "_law_covers" = some (.ref (a 3))
  p4 : g.ph 4 = some (a 4)
  m4 : mg "_law_common" = some (.ref (a 4))
  p5 : g.ph 5 = some (a 5)
  m5 : mg "_law_drawn_mark" = some (.ref (a 5))
  p6 : g.ph 6 = some (a 6)
  m6 : mg "law" = some (.ref (a 6))
  b_all : mg "all" = none
  b_int : mg "int" = none
  b_isinstance : mg "isinstance" = none
  b_list : mg "list" = none
  b_range : mg "range" = none
  b_set : mg "set" = none
  b_sorted : mg "sorted" = none
  b_str : mg "str" = none
  b_tuple : mg "tuple" = none
section
variable {P : Program} {w : World} {g : Gc} {mg : Str → Option Value} {base : Heap} {cal : Nat → List D → M D} {k : Nat} {a : Nat → Addr}
theorem Txt.v4 (T : Txt g w mg a) : Gv g mg "_law_common" (.fn 4) := ⟨.ref (a 4), .ref (a 4), T.m4, rfl, fun _ _ => ⟨a 4, T.p4, rfl⟩⟩
theorem Txt.v3 (T : Txt g w mg a) : Gv g mg "_law_covers" (.fn 3) := ⟨.ref (a 3), .ref (a 3), T.m3, rfl, fun _ _ => ⟨a 3, T.p3, rfl⟩⟩
theorem Txt.v2 (T : Txt g w mg a) : Gv g mg "_law_draw" (.fn 2) := ⟨.ref (a 2), .ref (a 2), T.m2, rfl, fun _ _ => ⟨a 2, T.p2, rfl⟩⟩
theorem Txt.v5 (T : Txt g w mg a) : Gv g mg "_law_drawn_mark" (.fn 5) := ⟨.ref (a 5), .ref (a 5), T.m5, rfl, fun _ _ => ⟨a 5, T.p5, rfl⟩⟩
theorem Txt.v0 (T : Txt g w mg a) : Gv g mg "covers" (.fn 0) := ⟨.ref (a 0), .ref (a 0), T.m0, rfl, fun _ _ => ⟨a 0, T.p0, rfl⟩⟩
theorem Txt.v1 (T : Txt g w mg a) : Gv g mg "in_common" (.fn 1) := ⟨.ref (a 1), .ref (a 1), T.m1, rfl, fun _ _ => ⟨a 1, T.p1, rfl⟩⟩
theorem sc0 : FnScope ["mark", "other", "name"] ["mark", "other"] (defScope (top 1)) := ⟨rfl, rfl, rfl, by decide +kernel, rfl, by decide +kernel, by decide +kernel⟩
theorem bd0 (T : Txt g w mg a) {f : Addr} {cdv : Value} {A : Around} {outer : List Env} {s : Shared} {H : Hp} {E : XK} (G : Gd (cxOf CX0 P w g.K mg base ["mark", "other", "name"] "covers" (defScope (top 1)) f cdv A outer s H E).nox g W0 CX0 cal k) :
    PSs (cxOf CX0 P w g.K mg base ["mark", "other", "name"] "covers" (defScope (top 1)) f cdv A outer s H E).nox (defBody (top 1)) (rS g W0 (exSs cal b0)) :=
    (ss_cons (s_ite (t_w (w_or (t_c (c_eq G) (e_var 0) e_str) (w_or1 (t_c (c_eq G) (e_var 0) (e_var 1))))) (ss_cons (s_ret e_bl)
    ss_nil) ss_nil)
    (ss_cons (s_ret (e_and (e_isi .tuple boot_tuple G.K T.b_isinstance T.b_tuple (e_var 0)) (e_and (e_isi .tuple boot_tuple G.K T.b_isinstance T.b_tuple (e_var 1)) (e_one (e_all G.calm G.K T.b_all (l_lc [("name", 2)] G (i_tup G.K (e_var 0)) (by rfl) (fun _ _ _ _ _ => g_one 2 G.nd) (fun _ _ _ _ _ G => (e_c (c_in G) (e_var 2) (e_var 1)))))))))
    ss_nil))
theorem sc1 : FnScope ["mark", "other", "name"] ["mark", "other"] (defScope (top 2)) := ⟨rfl, rfl, rfl, by decide +kernel, rfl, by decide +kernel, by decide +kernel⟩
theorem bd1 (T : Txt g w mg a) {f : Addr} {cdv : Value} {A : Around} {outer : List Env} {s : Shared} {H : Hp} {E : XK} (G : Gd (cxOf CX0 P w g.K mg base ["mark", "other", "name"] "in_common" (defScope (top 2)) f cdv A outer s H E).nox g W0 CX0 cal k) :
    PSs (cxOf CX0 P w g.K mg base ["mark", "other", "name"] "in_common" (defScope (top 2)) f cdv A outer s H E).nox (defBody (top 2)) (rS g W0 (exSs cal b1)) :=
    (ss_cons (s_ite (t_c (c_eq G) (e_var 0) (e_var 1)) (ss_cons (s_ret (e_var 0))
    ss_nil) ss_nil)
    (ss_cons (s_ite (t_w (w_and (t_val (e_isi .tuple boot_tuple G.K T.b_isinstance T.b_tuple (e_var 0))) (w_and1 (t_val (e_isi .tuple boot_tuple G.K T.b_isinstance T.b_tuple (e_var 1)))))) (ss_cons (s_ret (e_tupOf G.K T.b_tuple (e_lst (l_lcf [("name", 2)] G (i_tup G.K (e_var 0)) (by rfl) (fun _ _ _ _ _ => g_one 2 G.nd) (fun _ _ _ _ _ G => (t_c (c_in G) (e_var 2) (e_var 1))) (fun _ _ _ _ _ G => (e_var 2))))))
    ss_nil) ss_nil)
    (ss_cons (s_ret e_str)
    ss_nil)))
theorem sc2 : FnScope ["_law_stream", "_law_many", "_law_number"] ["_law_stream", "_law_many"] (defScope (top 4)) := ⟨rfl, rfl, rfl, by decide +kernel, rfl, by decide +kernel, by decide +kernel⟩
theorem bd2 (T : Txt g w mg a) {f : Addr} {cdv : Value} {A : Around} {outer : List Env} {s : Shared} {H : Hp} {E : XK} (G : Gd (cxOf CX0 P w g.K mg base ["_law_stream", "_law_many", "_law_number"] "_law_draw" (defScope (top 4)) f cdv A outer s H E).nox g W0 CX0 cal k) :
    PSs (cxOf CX0 P w g.K mg base ["_law_stream", "_law_many", "_law_number"] "_law_draw" (defScope (top 4)) f cdv A outer s H E).nox (defBody (top 4)) (rS g W0 (exSs cal b2)) :=
    (ss_cons (s_setI G (e_add G (e_idx G.K (e_var 0) e_int) e_int) (e_var 0) e_int)
    (ss_cons (s_ite (t_w (w_and (t_c (c_eq G) (e_idx G.K (e_var 0) e_int) e_int) (w_and1 (t_neL G (e_idx G.K (e_var 0) e_int) (l_disp a_nil))))) (ss_cons (s_setI G (e_popAt G.K (e_idx G.K (e_var 0) e_int) e_int) (e_var 0) e_int)
    (ss_cons (s_ite (t_c (c_lt G) (e_idx G.K (e_var 0) e_int) (e_pow G e_int e_int)) (ss_cons (s_setI G (e_mod G (e_add G (e_mul G (e_idx G.K (e_var 0) e_int) e_int) (e_idx G.K (e_var 0) e_int)) e_int) (e_var 0) e_int)
    (ss_cons (s_setI G e_int (e_var 0) e_int)
    ss_nil)) ss_nil)
    ss_nil)) ss_nil)
    (ss_cons (s_ite (t_c (c_gt G) (e_idx G.K (e_var 0) e_int) e_int) (ss_cons (s_asg 2 G.nd (e_mod G (e_idx G.K (e_var 0) e_int) (e_var 1)))
    (ss_cons (s_setI G (e_fdiv G (e_idx G.K (e_var 0) e_int) (e_var 1)) (e_var 0) e_int)
    (ss_cons (s_ret (e_var 2))
    ss_nil))) ss_nil)
    (ss_cons (s_asg 2 G.nd (e_mod G (e_pow G (e_add G (e_add G (e_idx G.K (e_var 0) e_int) (e_mul G e_int (e_idx G.K (e_var 0) e_int))) e_int) e_int) e_int))
    (ss_cons (s_ret (e_mod G (e_mod G (e_mul G (e_add G (e_var 2) (e_idx G.K (e_var 0) e_int)) e_int) e_int) (e_var 1)))
    ss_nil)))))
theorem sc3 : FnScope ["_law_mark", "_law_other", "_law_name"] ["_law_mark", "_law_other"] (defScope (top 5)) := ⟨rfl, rfl, rfl, by decide +kernel, rfl, by decide +kernel, by decide +kernel⟩
theorem bd3 (T : Txt g w mg a) {f : Addr} {cdv : Value} {A : Around} {outer : List Env} {s : Shared} {H : Hp} {E : XK} (G : Gd (cxOf CX0 P w g.K mg base ["_law_mark", "_law_other", "_law_name"] "_law_covers" (defScope (top 5)) f cdv A outer s H E).nox g W0 CX0 cal k) :
    PSs (cxOf CX0 P w g.K mg base ["_law_mark", "_law_other", "_law_name"] "_law_covers" (defScope (top 5)) f cdv A outer s H E).nox (defBody (top 5)) (rS g W0 (exSs cal b3)) :=
    (ss_cons (s_ite (t_w (w_or (t_not (t_val (e_isi .tuple boot_tuple G.K T.b_isinstance T.b_tuple (e_var 0)))) (w_or1 (t_not (t_val (e_isi .tuple boot_tuple G.K T.b_isinstance T.b_tuple (e_var 1))))))) (ss_cons (s_ret (e_or (e_c (c_eq G) (e_var 0) e_str) (e_one (e_c (c_eq G) (e_var 0) (e_var 1)))))
    ss_nil) ss_nil)
    (ss_cons (s_ret (e_all G.calm G.K T.b_all (l_lc [("_law_name", 2)] G (i_tup G.K (e_var 0)) (by rfl) (fun _ _ _ _ _ => g_one 2 G.nd) (fun _ _ _ _ _ G => (e_c (c_in G) (e_var 2) (e_var 1))))))
    ss_nil))
theorem sc4 : FnScope ["_law_mark", "_law_other", "_law_name"] ["_law_mark", "_law_other"] (defScope (top 6)) := ⟨rfl, rfl, rfl, by decide +kernel, rfl, by decide +kernel, by decide +kernel⟩
theorem bd4 (T : Txt g w mg a) {f : Addr} {cdv : Value} {A : Around} {outer : List Env} {s : Shared} {H : Hp} {E : XK} (G : Gd (cxOf CX0 P w g.K mg base ["_law_mark", "_law_other", "_law_name"] "_law_common" (defScope (top 6)) f cdv A outer s H E).nox g W0 CX0 cal k) :
    PSs (cxOf CX0 P w g.K mg base ["_law_mark", "_law_other", "_law_name"] "_law_common" (defScope (top 6)) f cdv A outer s H E).nox (defBody (top 6)) (rS g W0 (exSs cal b4)) :=
    (ss_cons (s_ite (t_w (w_and (t_val (e_isi .tuple boot_tuple G.K T.b_isinstance T.b_tuple (e_var 0))) (w_and1 (t_val (e_isi .tuple boot_tuple G.K T.b_isinstance T.b_tuple (e_var 1)))))) (ss_cons (s_ret (e_tupOf G.K T.b_tuple (e_lst (l_lcf [("_law_name", 2)] G (i_tup G.K (e_var 0)) (by rfl) (fun _ _ _ _ _ => g_one 2 G.nd) (fun _ _ _ _ _ G => (t_c (c_in G) (e_var 2) (e_var 1))) (fun _ _ _ _ _ G => (e_var 2))))))
    ss_nil) ss_nil)
    (ss_cons (s_ret (e_idxL G.K (l_disp (a_cons e_str (a_cons (e_var 0) a_nil))) (e_toInt T.b_int (e_c (c_eq G) (e_var 0) (e_var 1)))))
    ss_nil))
theorem sc5 : FnScope ["_law_stream", "_law_names", "_law_way", "_law_name"] ["_law_stream", "_law_names"] (defScope (top 7)) := ⟨rfl, rfl, rfl, by decide +kernel, rfl, by decide +kernel, by decide +kernel⟩
theorem bd5 (T : Txt g w mg a) {f : Addr} {cdv : Value} {A : Around} {outer : List Env} {s : Shared} {H : Hp} {E : XK} (G : Gd (cxOf CX0 P w g.K mg base ["_law_stream", "_law_names", "_law_way", "_law_name"] "_law_drawn_mark" (defScope (top 7)) f cdv A outer s H E).nox g W0 CX0 cal k) :
    PSs (cxOf CX0 P w g.K mg base ["_law_stream", "_law_names", "_law_way", "_law_name"] "_law_drawn_mark" (defScope (top 7)) f cdv A outer s H E).nox (defBody (top 7)) (rS g W0 (exSs cal b5)) :=
    (ss_cons (s_asg 2 G.nd (e_call G T.p2 T.m2 (a_cons (e_var 0) (a_cons e_int a_nil))))
    (ss_cons (s_ite (t_c (c_lt G) (e_var 2) e_int) (ss_cons (s_ret (e_idxL G.K (l_disp (a_cons e_str (a_cons e_str a_nil))) (e_var 2)))
    ss_nil) ss_nil)
    (ss_cons (s_ret (e_tupOf G.K T.b_tuple (e_lst (l_lcf [("_law_name", 3)] G (i_lst G.K (e_var 1)) (by rfl) (fun _ _ _ _ _ => g_one 3 G.nd) (fun _ _ _ _ _ G => (t_c (c_gt G) (e_call G T.p2 T.m2 (a_cons (e_var 0) (a_cons e_int a_nil))) e_int)) (fun _ _ _ _ _ G => (e_var 3))))))
    ss_nil)))
theorem sc6 : FnScope ["_law_script", "_law_stream", "_law_letters", "_law_names", "_law_marks", "_law_one", "_law_other", "_law_found", "_law_both", "_law_upper", "_law_left", "_law_k", "_law_mark"] ["_law_script"] (defScope (top 8)) := ⟨rfl, rfl, rfl, by decide +kernel, rfl, by decide +kernel, by decide +kernel⟩
theorem bd6 (T : Txt g w mg a) {f : Addr} {cdv : Value} {A : Around} {outer : List Env} {s : Shared} {H : Hp} {E : XK} (G : Gd (cxOf CX0 P w g.K mg base ["_law_script", "_law_stream", "_law_letters", "_law_names", "_law_marks", "_law_one", "_law_other", "_law_found", "_law_both", "_law_upper", "_law_left", "_law_k", "_law_mark"] "law" (defScope (top 8)) f cdv A outer s H E).nox g W0 CX0 cal k) :
    PSs (cxOf CX0 P w g.K mg base ["_law_script", "_law_stream", "_law_letters", "_law_names", "_law_marks", "_law_one", "_law_other", "_law_found", "_law_both", "_law_upper", "_law_left", "_law_k", "_law_mark"] "law" (defScope (top 8)) f cdv A outer s H E).nox (defBody (top 8)) (rS g W0 (exSs cal b6)) :=
    (ss_cons (s_asg 1 G.nd (e_lst (l_disp (a_cons (e_lst (l_of G.K T.b_list (e_var 0))) (a_cons e_int (a_cons e_int (a_cons e_int a_nil)))))))
    (ss_cons (s_asg 2 G.nd e_str)
    (ss_cons (s_asg 3 G.nd (e_lst (l_lc [("_law_k", 11)] G (i_rng T.b_range (e_call G T.p2 T.m2 (a_cons (e_var 1) (a_cons e_int a_nil)))) (by rfl) (fun _ _ _ _ _ => g_one 11 G.nd) (fun _ _ _ _ _ G => (e_add G (e_idx G.K (e_var 2) (e_call G T.p2 T.m2 (a_cons (e_var 1) (a_cons e_int a_nil)))) (e_idx G.K e_str (e_call G T.p2 T.m2 (a_cons (e_var 1) (a_cons e_int a_nil)))))))))
    (ss_cons (s_asg 3 G.nd (e_lst (l_srt G.calm G.K T.b_sorted T.b_set (e_var 3))))
    (ss_cons (s_asgLc 4 [("_law_k", 11)] G (i_rng T.b_range e_int) (by rfl) (fun _ _ _ _ _ => g_one 11 G.nd) (fun _ _ _ _ _ G => (e_call G T.p5 T.m5 (a_cons (e_var 1) (a_cons (e_var 3) a_nil)))) (sw_true rfl rfl rfl (by decide +kernel)))
    (ss_cons (s_for PassesOwn.never G.calm (i_lst G.K (e_var 4)) (g_one 5 G.nd) (ss_cons (s_for PassesOwn.never G.calm (i_lst G.K (e_var 4)) (g_one 6 G.nd) (ss_cons (s_asg 7 G.nd (e_call G T.p1 T.m1 (a_cons (e_var 5) (a_cons (e_var 6) a_nil))))
    (ss_cons (s_ite (t_w (w_or (t_c (c_ne G) (e_var 7) (e_call G T.p4 T.m4 (a_cons (e_var 5) (a_cons (e_var 6) a_nil)))) (w_or1 (t_c (c_ne G) (e_isi .str boot_str G.K T.b_isinstance T.b_str (e_var 7)) (e_isi .str boot_str G.K T.b_isinstance T.b_str (e_call G T.p4 T.m4 (a_cons (e_var 5) (a_cons (e_var 6) a_nil)))))))) (ss_cons (s_ret e_bl)
    ss_nil) ss_nil)
    (ss_cons (s_ite (t_w (w_or (t_c (c_ne G) (e_var 7) (e_call G T.p1 T.m1 (a_cons (e_var 6) (a_cons (e_var 5) a_nil)))) (w_or1 (t_c (c_ne G) (e_call G T.p0 T.m0 (a_cons (e_var 5) (a_cons (e_var 6) a_nil))) (e_call G T.p3 T.m3 (a_cons (e_var 5) (a_cons (e_var 6) a_nil))))))) (ss_cons (s_ret e_bl)
    ss_nil) ss_nil)
    (ss_cons (s_asg 8 G.nd (e_and (e_call G T.p0 T.m0 (a_cons (e_var 7) (a_cons (e_var 5) a_nil))) (e_one (e_call G T.p0 T.m0 (a_cons (e_var 7) (a_cons (e_var 6) a_nil))))))
    (ss_cons (s_asgLcf 9 [("_law_mark", 12)] G (i_lst G.K (e_var 4)) (by rfl) (fun _ _ _ _ _ => g_one 12 G.nd) (fun _ _ _ _ _ G => (t_w (w_and (t_val (e_call G T.p0 T.m0 (a_cons (e_var 12) (a_cons (e_var 5) a_nil)))) (w_and1 (t_val (e_call G T.p0 T.m0 (a_cons (e_var 12) (a_cons (e_var 6) a_nil)))))))) (fun _ _ _ _ _ G => (e_var 12)) (sw_true rfl rfl rfl (by decide +kernel)))
    (ss_cons (s_ite (t_w (w_or (t_not (t_val (e_var 8))) (w_or1 (t_not (t_val (e_all G.calm G.K T.b_all (l_lc [("_law_mark", 12)] G (i_lst G.K (e_var 9)) (by rfl) (fun _ _ _ _ _ => g_one 12 G.nd) (fun _ _ _ _ _ G => (e_call G T.p0 T.m0 (a_cons (e_var 12) (a_cons (e_var 7) a_nil))))))))))) (ss_cons (s_ret e_bl)
    ss_nil) ss_nil)
    ss_nil)))))))
    ss_nil))
    (ss_cons (s_asg 10 G.nd (e_call G T.p1 T.m1 (a_cons (e_call G T.p1 T.m1 (a_cons (e_idx G.K (e_var 4) e_int) (a_cons (e_idx G.K (e_var 4) e_int) a_nil))) (a_cons (e_idx G.K (e_var 4) e_int) a_nil))))
    (ss_cons (s_ret (e_c (c_eq G) (e_var 10) (e_call G T.p1 T.m1 (a_cons (e_idx G.K (e_var 4) e_int) (a_cons (e_call G T.p1 T.m1 (a_cons (e_idx G.K (e_var 4) e_int) (a_cons (e_idx G.K (e_var 4) e_int) a_nil))) a_nil)))))
    ss_nil))))))))
end
end Ir.K26
set_option Elab.async false
set_option linter.all false
set_option maxRecDepth 100000
set_option maxHeartbeats 4000001
namespace Ir.K26
open PySem
def dInts (ms : List Int) : MO := .lst (ms.map fun i => .p (.int i))
def st4 (b c e : Int) : MO := .lst [.ref 0, .p (.int b), .p (.int c), .p (.int e)]
def dInv (N : Int) (rest S : Sto) : Prop := ∃ (ms : List Int) (b c e : Int), S = dInts ms :: st4 b c e :: rest ∧ 0 ≤ c ∧ c ≤ N ∧ 0 ≤ e ∧ e < 2147483647
def d4 : Ss := match b2 with | .cons _ (.cons _ r) => r | _ => .nil
theorem draw_tail (cal : Nat → List D → M D) (ms : List Int) (rest : Sto) (b c e many : Int) (hm : 0 < many) (hm2 : many.natAbs.log2 < 9000) (hc : 0 ≤ c) (hc2 : c ≤ 100000000) (he : 0 ≤ e) (he2 : e < 2147483647) (N : Int) (hN : c ≤ N) :
    wp (exSs cal d4 [some (.ref 1), some (.p (.int many)), none] (dInts ms :: st4 b c e :: rest)) (fun x S' => ∃ (r : Int), x.1 = .ret (.p (.int r)) ∧ 0 ≤ r ∧ r < many ∧ dInv N rest S') (fun _ _ => False) := by
  unfold d4 b2
  dsimp only
  (with_reducible refine ss_consR ?_)
  repeat (first | (first | ((with_reducible refine r_var ?_); refine ⟨_, rfl, ?_⟩) | with_reducible refine r_cst ?_ | with_reducible refine r_bin ?_ | with_reducible refine r_cmp ?_ | with_reducible refine r_chain ?_ | with_reducible refine r_and ?_ | with_reducible refine r_or ?_ | with_reducible refine r_not ?_ | with_reducible refine r_idx ?_ | with_reducible refine r_idxL ?_ | with_reducible refine r_slice ?_ | with_reducible refine r_len ?_ | with_reducible refine r_isi ?_ | with_reducible refine r_toInt ?_ | with_reducible refine r_all ?_ | with_reducible refine r_tupOf ?_ | with_reducible refine r_wget ?_ | with_reducible refine r_dictOf ?_ | with_reducible refine r_lenset ?_ | with_reducible refine r_call ?_ | with_reducible refine r_tup ?_ | with_reducible refine r_nil ?_ | with_reducible refine r_cons ?_ | with_reducible refine r_disp ?_ | with_reducible refine r_lst ?_ | with_reducible refine r_cat ?_ | with_reducible refine r_of ?_ | with_reducible refine r_eqL ?_ | with_reducible refine r_pop ?_ | with_reducible refine s_asgR ?_ | with_reducible refine s_setR ?_ | with_reducible refine s_retR ?_ | with_reducible refine s_iteR ?_ | with_reducible refine s_unpR ?_ | with_reducible refine ss_nilR ?_ | ((with_reducible refine r_callv ?_); refine ⟨_, rfl, ?_⟩) | ((with_reducible refine r_setD ?_); refine ⟨_, _, rfl, rfl, rfl, ?_⟩) | ((with_reducible refine r_popD ?_); refine ⟨_, _, rfl, ?_⟩)) | with_reducible refine ex_bool ?_ | with_reducible refine ex_eq ?_ | with_reducible refine ex_lt ?_ | with_reducible refine ex_le ?_ | with_reducible refine ex_gt ?_ | with_reducible refine ex_add ?_ | with_reducible refine ex_sub ?_ | ((with_reducible refine ex_mod ?_ ?_); (· first | assumption | decide)) | ((with_reducible refine ex_mulR ?_ ?_); · decide) | ((with_reducible refine ex_mulL ?_ ?_); · decide) | ((with_reducible refine ex_pow ?_ ?_ ?_); (· decide); (· first | omega | decide)) | ((with_reducible refine ex_fdiv ?_ ?_ ?_); (· first | assumption | decide); (· first | assumption | decide)) | ((with_reducible refine ex_get ?_); refine ⟨_, rfl, ?_⟩; (try dsimp only)) | ((with_reducible refine ex_len ?_ ?_); (· exact Nat.le_of_ble_eq_true rfl)) | ((with_reducible refine ex_plain ?_); refine ⟨_, rfl, Nat.le_of_ble_eq_true rfl, ?_⟩; (try dsimp only)))
  refine ifB (fun h => ?_) (fun h => ?_)
  · (with_reducible refine ss_consR ?_); repeat (first | (first | ((with_reducible refine r_var ?_); refine ⟨_, rfl, ?_⟩) | with_reducible refine r_cst ?_ | with_reducible refine r_bin ?_ | with_reducible refine r_cmp ?_ | with_reducible refine r_chain ?_ | with_reducible refine r_and ?_ | with_reducible refine r_or ?_ | with_reducible refine r_not ?_ | with_reducible refine r_idx ?_ | with_reducible refine r_idxL ?_ | with_reducible refine r_slice ?_ | with_reducible refine r_len ?_ | with_reducible refine r_isi ?_ | with_reducible refine r_toInt ?_ | with_reducible refine r_all ?_ | with_reducible refine r_tupOf ?_ | with_reducible refine r_wget ?_ | with_reducible refine r_dictOf ?_ | with_reducible refine r_lenset ?_ | with_reducible refine r_call ?_ | with_reducible refine r_tup ?_ | with_reducible refine r_nil ?_ | with_reducible refine r_cons ?_ | with_reducible refine r_disp ?_ | with_reducible refine r_lst ?_ | with_reducible refine r_cat ?_ | with_reducible refine r_of ?_ | with_reducible refine r_eqL ?_ | with_reducible refine r_pop ?_ | with_reducible refine s_asgR ?_ | with_reducible refine s_setR ?_ | with_reducible refine s_retR ?_ | with_reducible refine s_iteR ?_ | with_reducible refine s_unpR ?_ | with_reducible refine ss_nilR ?_ | ((with_reducible refine r_callv ?_); refine ⟨_, rfl, ?_⟩) | ((with_reducible refine r_setD ?_); refine ⟨_, _, rfl, rfl, rfl, ?_⟩) | ((with_reducible refine r_popD ?_); refine ⟨_, _, rfl, ?_⟩)) | with_reducible refine ex_bool ?_ | with_reducible refine ex_eq ?_ | with_reducible refine ex_lt ?_ | with_reducible refine ex_le ?_ | with_reducible refine ex_gt ?_ | with_reducible refine ex_add ?_ | with_reducible refine ex_sub ?_ | ((with_reducible refine ex_mod ?_ ?_); (· first | assumption | decide)) | ((with_reducible refine ex_mulR ?_ ?_); · decide) | ((with_reducible refine ex_mulL ?_ ?_); · decide) | ((with_reducible refine ex_pow ?_ ?_ ?_); (· decide); (· first | omega | decide)) | ((with_reducible refine ex_fdiv ?_ ?_ ?_); (· first | assumption | decide); (· first | assumption | decide)) | ((with_reducible refine ex_get ?_); refine ⟨_, rfl, ?_⟩; (try dsimp only)) | ((with_reducible refine ex_len ?_ ?_); (· exact Nat.le_of_ble_eq_true rfl)) | ((with_reducible refine ex_plain ?_); refine ⟨_, rfl, Nat.le_of_ble_eq_true rfl, ?_⟩; (try dsimp only)))
    (with_reducible refine ss_consR ?_); repeat (first | (first | ((with_reducible refine r_var ?_); refine ⟨_, rfl, ?_⟩) | with_reducible refine r_cst ?_ | with_reducible refine r_bin ?_ | with_reducible refine r_cmp ?_ | with_reducible refine r_chain ?_ | with_reducible refine r_and ?_ | with_reducible refine r_or ?_ | with_reducible refine r_not ?_ | with_reducible refine r_idx ?_ | with_reducible refine r_idxL ?_ | with_reducible refine r_slice ?_ | with_reducible refine r_len ?_ | with_reducible refine r_isi ?_ | with_reducible refine r_toInt ?_ | with_reducible refine r_all ?_ | with_reducible refine r_tupOf ?_ | with_reducible refine r_wget ?_ | with_reducible refine r_dictOf ?_ | with_reducible refine r_lenset ?_ | with_reducible refine r_call ?_ | with_reducible refine r_tup ?_ | with_reducible refine r_nil ?_ | with_reducible refine r_cons ?_ | with_reducible refine r_disp ?_ | with_reducible refine r_lst ?_ | with_reducible refine r_cat ?_ | with_reducible refine r_of ?_ | with_reducible refine r_eqL ?_ | with_reducible refine r_pop ?_ | with_reducible refine s_asgR ?_ | with_reducible refine s_setR ?_ | with_reducible refine s_retR ?_ | with_reducible refine s_iteR ?_ | with_reducible refine s_unpR ?_ | with_reducible refine ss_nilR ?_ | ((with_reducible refine r_callv ?_); refine ⟨_, rfl, ?_⟩) | ((with_reducible refine r_setD ?_); refine ⟨_, _, rfl, rfl, rfl, ?_⟩) | ((with_reducible refine r_popD ?_); refine ⟨_, _, rfl, ?_⟩)) | with_reducible refine ex_bool ?_ | with_reducible refine ex_eq ?_ | with_reducible refine ex_lt ?_ | with_reducible refine ex_le ?_ | with_reducible refine ex_gt ?_ | with_reducible refine ex_add ?_ | with_reducible refine ex_sub ?_ | ((with_reducible refine ex_mod ?_ ?_); (· first | assumption | decide)) | ((with_reducible refine ex_mulR ?_ ?_); · decide) | ((with_reducible refine ex_mulL ?_ ?_); · decide) | ((with_reducible refine ex_pow ?_ ?_ ?_); (· decide); (· first | omega | decide)) | ((with_reducible refine ex_fdiv ?_ ?_ ?_); (· first | assumption | decide); (· first | assumption | decide)) | ((with_reducible refine ex_get ?_); refine ⟨_, rfl, ?_⟩; (try dsimp only)) | ((with_reducible refine ex_len ?_ ?_); (· exact Nat.le_of_ble_eq_true rfl)) | ((with_reducible refine ex_plain ?_); refine ⟨_, rfl, Nat.le_of_ble_eq_true rfl, ?_⟩; (try dsimp only)))
    (with_reducible refine ss_consR ?_); repeat (first | (first | ((with_reducible refine r_var ?_); refine ⟨_, rfl, ?_⟩) | with_reducible refine r_cst ?_ | with_reducible refine r_bin ?_ | with_reducible refine r_cmp ?_ | with_reducible refine r_chain ?_ | with_reducible refine r_and ?_ | with_reducible refine r_or ?_ | with_reducible refine r_not ?_ | with_reducible refine r_idx ?_ | with_reducible refine r_idxL ?_ | with_reducible refine r_slice ?_ | with_reducible refine r_len ?_ | with_reducible refine r_isi ?_ | with_reducible refine r_toInt ?_ | with_reducible refine r_all ?_ | with_reducible refine r_tupOf ?_ | with_reducible refine r_wget ?_ | with_reducible refine r_dictOf ?_ | with_reducible refine r_lenset ?_ | with_reducible refine r_call ?_ | with_reducible refine r_tup ?_ | with_reducible refine r_nil ?_ | with_reducible refine r_cons ?_ | with_reducible refine r_disp ?_ | with_reducible refine r_lst ?_ | with_reducible refine r_cat ?_ | with_reducible refine r_of ?_ | with_reducible refine r_eqL ?_ | with_reducible refine r_pop ?_ | with_reducible refine s_asgR ?_ | with_reducible refine s_setR ?_ | with_reducible refine s_retR ?_ | with_reducible refine s_iteR ?_ | with_reducible refine s_unpR ?_ | with_reducible refine ss_nilR ?_ | ((with_reducible refine r_callv ?_); refine ⟨_, rfl, ?_⟩) | ((with_reducible refine r_setD ?_); refine ⟨_, _, rfl, rfl, rfl, ?_⟩) | ((with_reducible refine r_popD ?_); refine ⟨_, _, rfl, ?_⟩)) | with_reducible refine ex_bool ?_ | with_reducible refine ex_eq ?_ | with_reducible refine ex_lt ?_ | with_reducible refine ex_le ?_ | with_reducible refine ex_gt ?_ | with_reducible refine ex_add ?_ | with_reducible refine ex_sub ?_ | ((with_reducible refine ex_mod ?_ ?_); (· first | assumption | decide)) | ((with_reducible refine ex_mulR ?_ ?_); · decide) | ((with_reducible refine ex_mulL ?_ ?_); · decide) | ((with_reducible refine ex_pow ?_ ?_ ?_); (· decide); (· first | omega | decide)) | ((with_reducible refine ex_fdiv ?_ ?_ ?_); (· first | assumption | decide); (· first | assumption | decide)) | ((with_reducible refine ex_get ?_); refine ⟨_, rfl, ?_⟩; (try dsimp only)) | ((with_reducible refine ex_len ?_ ?_); (· exact Nat.le_of_ble_eq_true rfl)) | ((with_reducible refine ex_plain ?_); refine ⟨_, rfl, Nat.le_of_ble_eq_true rfl, ?_⟩; (try dsimp only)))
    exact ⟨_, rfl, Int.emod_nonneg _ (by omega), Int.emod_lt_of_pos _ hm, ms, b / many, c, e, rfl, hc, hN, he, he2⟩
  · repeat (first | (first | ((with_reducible refine r_var ?_); refine ⟨_, rfl, ?_⟩) | with_reducible refine r_cst ?_ | with_reducible refine r_bin ?_ | with_reducible refine r_cmp ?_ | with_reducible refine r_chain ?_ | with_reducible refine r_and ?_ | with_reducible refine r_or ?_ | with_reducible refine r_not ?_ | with_reducible refine r_idx ?_ | with_reducible refine r_idxL ?_ | with_reducible refine r_slice ?_ | with_reducible refine r_len ?_ | with_reducible refine r_isi ?_ | with_reducible refine r_toInt ?_ | with_reducible refine r_all ?_ | with_reducible refine r_tupOf ?_ | with_reducible refine r_wget ?_ | with_reducible refine r_dictOf ?_ | with_reducible refine r_lenset ?_ | with_reducible refine r_call ?_ | with_reducible refine r_tup ?_ | with_reducible refine r_nil ?_ | with_reducible refine r_cons ?_ | with_reducible refine r_disp ?_ | with_reducible refine r_lst ?_ | with_reducible refine r_cat ?_ | with_reducible refine r_of ?_ | with_reducible refine r_eqL ?_ | with_reducible refine r_pop ?_ | with_reducible refine s_asgR ?_ | with_reducible refine s_setR ?_ | with_reducible refine s_retR ?_ | with_reducible refine s_iteR ?_ | with_reducible refine s_unpR ?_ | with_reducible refine ss_nilR ?_ | ((with_reducible refine r_callv ?_); refine ⟨_, rfl, ?_⟩) | ((with_reducible refine r_setD ?_); refine ⟨_, _, rfl, rfl, rfl, ?_⟩) | ((with_reducible refine r_popD ?_); refine ⟨_, _, rfl, ?_⟩)) | with_reducible refine ex_bool ?_ | with_reducible refine ex_eq ?_ | with_reducible refine ex_lt ?_ | with_reducible refine ex_le ?_ | with_reducible refine ex_gt ?_ | with_reducible refine ex_add ?_ | with_reducible refine ex_sub ?_ | ((with_reducible refine ex_mod ?_ ?_); (· first | assumption | decide)) | ((with_reducible refine ex_mulR ?_ ?_); · decide) | ((with_reducible refine ex_mulL ?_ ?_); · decide) | ((with_reducible refine ex_pow ?_ ?_ ?_); (· decide); (· first | omega | decide)) | ((with_reducible refine ex_fdiv ?_ ?_ ?_); (· first | assumption | decide); (· first | assumption | decide)) | ((with_reducible refine ex_get ?_); refine ⟨_, rfl, ?_⟩; (try dsimp only)) | ((with_reducible refine ex_len ?_ ?_); (· exact Nat.le_of_ble_eq_true rfl)) | ((with_reducible refine ex_plain ?_); refine ⟨_, rfl, Nat.le_of_ble_eq_true rfl, ?_⟩; (try dsimp only)))
    (with_reducible refine ss_consR ?_); repeat (first | (first | ((with_reducible refine r_var ?_); refine ⟨_, rfl, ?_⟩) | with_reducible refine r_cst ?_ | with_reducible refine r_bin ?_ | with_reducible refine r_cmp ?_ | with_reducible refine r_chain ?_ | with_reducible refine r_and ?_ | with_reducible refine r_or ?_ | with_reducible refine r_not ?_ | with_reducible refine r_idx ?_ | with_reducible refine r_idxL ?_ | with_reducible refine r_slice ?_ | with_reducible refine r_len ?_ | with_reducible refine r_isi ?_ | with_reducible refine r_toInt ?_ | with_reducible refine r_all ?_ | with_reducible refine r_tupOf ?_ | with_reducible refine r_wget ?_ | with_reducible refine r_dictOf ?_ | with_reducible refine r_lenset ?_ | with_reducible refine r_call ?_ | with_reducible refine r_tup ?_ | with_reducible refine r_nil ?_ | with_reducible refine r_cons ?_ | with_reducible refine r_disp ?_ | with_reducible refine r_lst ?_ | with_reducible refine r_cat ?_ | with_reducible refine r_of ?_ | with_reducible refine r_eqL ?_ | with_reducible refine r_pop ?_ | with_reducible refine s_asgR ?_ | with_reducible refine s_setR ?_ | with_reducible refine s_retR ?_ | with_reducible refine s_iteR ?_ | with_reducible refine s_unpR ?_ | with_reducible refine ss_nilR ?_ | ((with_reducible refine r_callv ?_); refine ⟨_, rfl, ?_⟩) | ((with_reducible refine r_setD ?_); refine ⟨_, _, rfl, rfl, rfl, ?_⟩) | ((with_reducible refine r_popD ?_); refine ⟨_, _, rfl, ?_⟩)) | with_reducible refine ex_bool ?_ | with_reducible refine ex_eq ?_ | with_reducible refine ex_lt ?_ | with_reducible refine ex_le ?_ | with_reducible refine ex_gt ?_ | with_reducible refine ex_add ?_ | with_reducible refine ex_sub ?_ | ((with_reducible refine ex_mod ?_ ?_); (· first | assumption | decide)) | ((with_reducible refine ex_mulR ?_ ?_); · decide) | ((with_reducible refine ex_mulL ?_ ?_); · decide) | ((with_reducible refine ex_pow ?_ ?_ ?_); (· decide); (· first | omega | decide)) | ((with_reducible refine ex_fdiv ?_ ?_ ?_); (· first | assumption | decide); (· first | assumption | decide)) | ((with_reducible refine ex_get ?_); refine ⟨_, rfl, ?_⟩; (try dsimp only)) | ((with_reducible refine ex_len ?_ ?_); (· exact Nat.le_of_ble_eq_true rfl)) | ((with_reducible refine ex_plain ?_); refine ⟨_, rfl, Nat.le_of_ble_eq_true rfl, ?_⟩; (try dsimp only)))
    (with_reducible refine ss_consR ?_); repeat (first | (first | ((with_reducible refine r_var ?_); refine ⟨_, rfl, ?_⟩) | with_reducible refine r_cst ?_ | with_reducible refine r_bin ?_ | with_reducible refine r_cmp ?_ | with_reducible refine r_chain ?_ | with_reducible refine r_and ?_ | with_reducible refine r_or ?_ | with_reducible refine r_not ?_ | with_reducible refine r_idx ?_ | with_reducible refine r_idxL ?_ | with_reducible refine r_slice ?_ | with_reducible refine r_len ?_ | with_reducible refine r_isi ?_ | with_reducible refine r_toInt ?_ | with_reducible refine r_all ?_ | with_reducible refine r_tupOf ?_ | with_reducible refine r_wget ?_ | with_reducible refine r_dictOf ?_ | with_reducible refine r_lenset ?_ | with_reducible refine r_call ?_ | with_reducible refine r_tup ?_ | with_reducible refine r_nil ?_ | with_reducible refine r_cons ?_ | with_reducible refine r_disp ?_ | with_reducible refine r_lst ?_ | with_reducible refine r_cat ?_ | with_reducible refine r_of ?_ | with_reducible refine r_eqL ?_ | with_reducible refine r_pop ?_ | with_reducible refine s_asgR ?_ | with_reducible refine s_setR ?_ | with_reducible refine s_retR ?_ | with_reducible refine s_iteR ?_ | with_reducible refine s_unpR ?_ | with_reducible refine ss_nilR ?_ | ((with_reducible refine r_callv ?_); refine ⟨_, rfl, ?_⟩) | ((with_reducible refine r_setD ?_); refine ⟨_, _, rfl, rfl, rfl, ?_⟩) | ((with_reducible refine r_popD ?_); refine ⟨_, _, rfl, ?_⟩)) | with_reducible refine ex_bool ?_ | with_reducible refine ex_eq ?_ | with_reducible refine ex_lt ?_ | with_reducible refine ex_le ?_ | with_reducible refine ex_gt ?_ | with_reducible refine ex_add ?_ | with_reducible refine ex_sub ?_ | ((with_reducible refine ex_mod ?_ ?_); (· first | assumption | decide)) | ((with_reducible refine ex_mulR ?_ ?_); · decide) | ((with_reducible refine ex_mulL ?_ ?_); · decide) | ((with_reducible refine ex_pow ?_ ?_ ?_); (· decide); (· first | omega | decide)) | ((with_reducible refine ex_fdiv ?_ ?_ ?_); (· first | assumption | decide); (· first | assumption | decide)) | ((with_reducible refine ex_get ?_); refine ⟨_, rfl, ?_⟩; (try dsimp only)) | ((with_reducible refine ex_len ?_ ?_); (· exact Nat.le_of_ble_eq_true rfl)) | ((with_reducible refine ex_plain ?_); refine ⟨_, rfl, Nat.le_of_ble_eq_true rfl, ?_⟩; (try dsimp only)))
    exact ⟨_, rfl, Int.emod_nonneg _ (by omega), Int.emod_lt_of_pos _ hm, ms, b, c, e, rfl, hc, hN, he, he2⟩
theorem draw_body (cal : Nat → List D → M D) (ms : List Int) (rest : Sto) (b c e many : Int) (hm : 0 < many) (hm2 : many.natAbs.log2 < 9000) (hc : 0 ≤ c) (hc2 : c ≤ 10000000) (he : 0 ≤ e) (he2 : e < 2147483647) (N : Int) (hN : c ≤ N) :
    wp (exSs cal b2 [some (.ref 1), some (.p (.int many)), none] (dInts ms :: st4 b c e :: rest)) (fun x S' => ∃ (r : Int), x.1 = .ret (.p (.int r)) ∧ 0 ≤ r ∧ r < many ∧ dInv (N + 1) rest S') (fun _ _ => False) := by
  have T := fun ms b e (he : 0 ≤ e) (he2 : e < 2147483647) => draw_tail cal ms rest b (c + 1) e many hm hm2 (by omega) (by omega) he he2 (N + 1) (by omega)
  unfold d4 at T
  unfold b2 at T ⊢
  dsimp only at T
  (with_reducible refine ss_consR ?_); repeat (first | (first | ((with_reducible refine r_var ?_); refine ⟨_, rfl, ?_⟩) | with_reducible refine r_cst ?_ | with_reducible refine r_bin ?_ | with_reducible refine r_cmp ?_ | with_reducible refine r_chain ?_ | with_reducible refine r_and ?_ | with_reducible refine r_or ?_ | with_reducible refine r_not ?_ | with_reducible refine r_idx ?_ | with_reducible refine r_idxL ?_ | with_reducible refine r_slice ?_ | with_reducible refine r_len ?_ | with_reducible refine r_isi ?_ | with_reducible refine r_toInt ?_ | with_reducible refine r_all ?_ | with_reducible refine r_tupOf ?_ | with_reducible refine r_wget ?_ | with_reducible refine r_dictOf ?_ | with_reducible refine r_lenset ?_ | with_reducible refine r_call ?_ | with_reducible refine r_tup ?_ | with_reducible refine r_nil ?_ | with_reducible refine r_cons ?_ | with_reducible refine r_disp ?_ | with_reducible refine r_lst ?_ | with_reducible refine r_cat ?_ | with_reducible refine r_of ?_ | with_reducible refine r_eqL ?_ | with_reducible refine r_pop ?_ | with_reducible refine s_asgR ?_ | with_reducible refine s_setR ?_ | with_reducible refine s_retR ?_ | with_reducible refine s_iteR ?_ | with_reducible refine s_unpR ?_ | with_reducible refine ss_nilR ?_ | ((with_reducible refine r_callv ?_); refine ⟨_, rfl, ?_⟩) | ((with_reducible refine r_setD ?_); refine ⟨_, _, rfl, rfl, rfl, ?_⟩) | ((with_reducible refine r_popD ?_); refine ⟨_, _, rfl, ?_⟩)) | with_reducible refine ex_bool ?_ | with_reducible refine ex_eq ?_ | with_reducible refine ex_lt ?_ | with_reducible refine ex_le ?_ | with_reducible refine ex_gt ?_ | with_reducible refine ex_add ?_ | with_reducible refine ex_sub ?_ | ((with_reducible refine ex_mod ?_ ?_); (· first | assumption | decide)) | ((with_reducible refine ex_mulR ?_ ?_); · decide) | ((with_reducible refine ex_mulL ?_ ?_); · decide) | ((with_reducible refine ex_pow ?_ ?_ ?_); (· decide); (· first | omega | decide)) | ((with_reducible refine ex_fdiv ?_ ?_ ?_); (· first | assumption | decide); (· first | assumption | decide)) | ((with_reducible refine ex_get ?_); refine ⟨_, rfl, ?_⟩; (try dsimp only)) | ((with_reducible refine ex_len ?_ ?_); (· exact Nat.le_of_ble_eq_true rfl)) | ((with_reducible refine ex_plain ?_); refine ⟨_, rfl, Nat.le_of_ble_eq_true rfl, ?_⟩; (try dsimp only)))
  (with_reducible refine ss_consR ?_); repeat (first | (first | ((with_reducible refine r_var ?_); refine ⟨_, rfl, ?_⟩) | with_reducible refine r_cst ?_ | with_reducible refine r_bin ?_ | with_reducible refine r_cmp ?_ | with_reducible refine r_chain ?_ | with_reducible refine r_and ?_ | with_reducible refine r_or ?_ | with_reducible refine r_not ?_ | with_reducible refine r_idx ?_ | with_reducible refine r_idxL ?_ | with_reducible refine r_slice ?_ | with_reducible refine r_len ?_ | with_reducible refine r_isi ?_ | with_reducible refine r_toInt ?_ | with_reducible refine r_all ?_ | with_reducible refine r_tupOf ?_ | with_reducible refine r_wget ?_ | with_reducible refine r_dictOf ?_ | with_reducible refine r_lenset ?_ | with_reducible refine r_call ?_ | with_reducible refine r_tup ?_ | with_reducible refine r_nil ?_ | with_reducible refine r_cons ?_ | with_reducible refine r_disp ?_ | with_reducible refine r_lst ?_ | with_reducible refine r_cat ?_ | with_reducible refine r_of ?_ | with_reducible refine r_eqL ?_ | with_reducible refine r_pop ?_ | with_reducible refine s_asgR ?_ | with_reducible refine s_setR ?_ | with_reducible refine s_retR ?_ | with_reducible refine s_iteR ?_ | with_reducible refine s_unpR ?_ | with_reducible refine ss_nilR ?_ | ((with_reducible refine r_callv ?_); refine ⟨_, rfl, ?_⟩) | ((with_reducible refine r_setD ?_); refine ⟨_, _, rfl, rfl, rfl, ?_⟩) | ((with_reducible refine r_popD ?_); refine ⟨_, _, rfl, ?_⟩)) | with_reducible refine ex_bool ?_ | with_reducible refine ex_eq ?_ | with_reducible refine ex_lt ?_ | with_reducible refine ex_le ?_ | with_reducible refine ex_gt ?_ | with_reducible refine ex_add ?_ | with_reducible refine ex_sub ?_ | ((with_reducible refine ex_mod ?_ ?_); (· first | assumption | decide)) | ((with_reducible refine ex_mulR ?_ ?_); · decide) | ((with_reducible refine ex_mulL ?_ ?_); · decide) | ((with_reducible refine ex_pow ?_ ?_ ?_); (· decide); (· first | omega | decide)) | ((with_reducible refine ex_fdiv ?_ ?_ ?_); (· first | assumption | decide); (· first | assumption | decide)) | ((with_reducible refine ex_get ?_); refine ⟨_, rfl, ?_⟩; (try dsimp only)) | ((with_reducible refine ex_len ?_ ?_); (· exact Nat.le_of_ble_eq_true rfl)) | ((with_reducible refine ex_plain ?_); refine ⟨_, rfl, Nat.le_of_ble_eq_true rfl, ?_⟩; (try dsimp only)))
  refine ifB (fun h => ?_) (fun h => ?_)
  · repeat (first | (first | ((with_reducible refine r_var ?_); refine ⟨_, rfl, ?_⟩) | with_reducible refine r_cst ?_ | with_reducible refine r_bin ?_ | with_reducible refine r_cmp ?_ | with_reducible refine r_chain ?_ | with_reducible refine r_and ?_ | with_reducible refine r_or ?_ | with_reducible refine r_not ?_ | with_reducible refine r_idx ?_ | with_reducible refine r_idxL ?_ | with_reducible refine r_slice ?_ | with_reducible refine r_len ?_ | with_reducible refine r_isi ?_ | with_reducible refine r_toInt ?_ | with_reducible refine r_all ?_ | with_reducible refine r_tupOf ?_ | with_reducible refine r_wget ?_ | with_reducible refine r_dictOf ?_ | with_reducible refine r_lenset ?_ | with_reducible refine r_call ?_ | with_reducible refine r_tup ?_ | with_reducible refine r_nil ?_ | with_reducible refine r_cons ?_ | with_reducible refine r_disp ?_ | with_reducible refine r_lst ?_ | with_reducible refine r_cat ?_ | with_reducible refine r_of ?_ | with_reducible refine r_eqL ?_ | with_reducible refine r_pop ?_ | with_reducible refine s_asgR ?_ | with_reducible refine s_setR ?_ | with_reducible refine s_retR ?_ | with_reducible refine s_iteR ?_ | with_reducible refine s_unpR ?_ | with_reducible refine ss_nilR ?_ | ((with_reducible refine r_callv ?_); refine ⟨_, rfl, ?_⟩) | ((with_reducible refine r_setD ?_); refine ⟨_, _, rfl, rfl, rfl, ?_⟩) | ((with_reducible refine r_popD ?_); refine ⟨_, _, rfl, ?_⟩)) | with_reducible refine ex_bool ?_ | with_reducible refine ex_eq ?_ | with_reducible refine ex_lt ?_ | with_reducible refine ex_le ?_ | with_reducible refine ex_gt ?_ | with_reducible refine ex_add ?_ | with_reducible refine ex_sub ?_ | ((with_reducible refine ex_mod ?_ ?_); (· first | assumption | decide)) | ((with_reducible refine ex_mulR ?_ ?_); · decide) | ((with_reducible refine ex_mulL ?_ ?_); · decide) | ((with_reducible refine ex_pow ?_ ?_ ?_); (· decide); (· first | omega | decide)) | ((with_reducible refine ex_fdiv ?_ ?_ ?_); (· first | assumption | decide); (· first | assumption | decide)) | ((with_reducible refine ex_get ?_); refine ⟨_, rfl, ?_⟩; (try dsimp only)) | ((with_reducible refine ex_len ?_ ?_); (· exact Nat.le_of_ble_eq_true rfl)) | ((with_reducible refine ex_plain ?_); refine ⟨_, rfl, Nat.le_of_ble_eq_true rfl, ?_⟩; (try dsimp only)))
    refine ⟨_, _, rfl, eqL_ints true ms, ?_⟩
    repeat (first | (first | ((with_reducible refine r_var ?_); refine ⟨_, rfl, ?_⟩) | with_reducible refine r_cst ?_ | with_reducible refine r_bin ?_ | with_reducible refine r_cmp ?_ | with_reducible refine r_chain ?_ | with_reducible refine r_and ?_ | with_reducible refine r_or ?_ | with_reducible refine r_not ?_ | with_reducible refine r_idx ?_ | with_reducible refine r_idxL ?_ | with_reducible refine r_slice ?_ | with_reducible refine r_len ?_ | with_reducible refine r_isi ?_ | with_reducible refine r_toInt ?_ | with_reducible refine r_all ?_ | with_reducible refine r_tupOf ?_ | with_reducible refine r_wget ?_ | with_reducible refine r_dictOf ?_ | with_reducible refine r_lenset ?_ | with_reducible refine r_call ?_ | with_reducible refine r_tup ?_ | with_reducible refine r_nil ?_ | with_reducible refine r_cons ?_ | with_reducible refine r_disp ?_ | with_reducible refine r_lst ?_ | with_reducible refine r_cat ?_ | with_reducible refine r_of ?_ | with_reducible refine r_eqL ?_ | with_reducible refine r_pop ?_ | with_reducible refine s_asgR ?_ | with_reducible refine s_setR ?_ | with_reducible refine s_retR ?_ | with_reducible refine s_iteR ?_ | with_reducible refine s_unpR ?_ | with_reducible refine ss_nilR ?_ | ((with_reducible refine r_callv ?_); refine ⟨_, rfl, ?_⟩) | ((with_reducible refine r_setD ?_); refine ⟨_, _, rfl, rfl, rfl, ?_⟩) | ((with_reducible refine r_popD ?_); refine ⟨_, _, rfl, ?_⟩)) | with_reducible refine ex_bool ?_ | with_reducible refine ex_eq ?_ | with_reducible refine ex_lt ?_ | with_reducible refine ex_le ?_ | with_reducible refine ex_gt ?_ | with_reducible refine ex_add ?_ | with_reducible refine ex_sub ?_ | ((with_reducible refine ex_mod ?_ ?_); (· first | assumption | decide)) | ((with_reducible refine ex_mulR ?_ ?_); · decide) | ((with_reducible refine ex_mulL ?_ ?_); · decide) | ((with_reducible refine ex_pow ?_ ?_ ?_); (· decide); (· first | omega | decide)) | ((with_reducible refine ex_fdiv ?_ ?_ ?_); (· first | assumption | decide); (· first | assumption | decide)) | ((with_reducible refine ex_get ?_); refine ⟨_, rfl, ?_⟩; (try dsimp only)) | ((with_reducible refine ex_len ?_ ?_); (· exact Nat.le_of_ble_eq_true rfl)) | ((with_reducible refine ex_plain ?_); refine ⟨_, rfl, Nat.le_of_ble_eq_true rfl, ?_⟩; (try dsimp only)))
    cases ms with
    | nil =>
      refine ifF ?_
      repeat (first | (first | ((with_reducible refine r_var ?_); refine ⟨_, rfl, ?_⟩) | with_reducible refine r_cst ?_ | with_reducible refine r_bin ?_ | with_reducible refine r_cmp ?_ | with_reducible refine r_chain ?_ | with_reducible refine r_and ?_ | with_reducible refine r_or ?_ | with_reducible refine r_not ?_ | with_reducible refine r_idx ?_ | with_reducible refine r_idxL ?_ | with_reducible refine r_slice ?_ | with_reducible refine r_len ?_ | with_reducible refine r_isi ?_ | with_reducible refine r_toInt ?_ | with_reducible refine r_all ?_ | with_reducible refine r_tupOf ?_ | with_reducible refine r_wget ?_ | with_reducible refine r_dictOf ?_ | with_reducible refine r_lenset ?_ | with_reducible refine r_call ?_ | with_reducible refine r_tup ?_ | with_reducible refine r_nil ?_ | with_reducible refine r_cons ?_ | with_reducible refine r_disp ?_ | with_reducible refine r_lst ?_ | with_reducible refine r_cat ?_ | with_reducible refine r_of ?_ | with_reducible refine r_eqL ?_ | with_reducible refine r_pop ?_ | with_reducible refine s_asgR ?_ | with_reducible refine s_setR ?_ | with_reducible refine s_retR ?_ | with_reducible refine s_iteR ?_ | with_reducible refine s_unpR ?_ | with_reducible refine ss_nilR ?_ | ((with_reducible refine r_callv ?_); refine ⟨_, rfl, ?_⟩) | ((with_reducible refine r_setD ?_); refine ⟨_, _, rfl, rfl, rfl, ?_⟩) | ((with_reducible refine r_popD ?_); refine ⟨_, _, rfl, ?_⟩)) | with_reducible refine ex_bool ?_ | with_reducible refine ex_eq ?_ | with_reducible refine ex_lt ?_ | with_reducible refine ex_le ?_ | with_reducible refine ex_gt ?_ | with_reducible refine ex_add ?_ | with_reducible refine ex_sub ?_ | ((with_reducible refine ex_mod ?_ ?_); (· first | assumption | decide)) | ((with_reducible refine ex_mulR ?_ ?_); · decide) | ((with_reducible refine ex_mulL ?_ ?_); · decide) | ((with_reducible refine ex_pow ?_ ?_ ?_); (· decide); (· first | omega | decide)) | ((with_reducible refine ex_fdiv ?_ ?_ ?_); (· first | assumption | decide); (· first | assumption | decide)) | ((with_reducible refine ex_get ?_); refine ⟨_, rfl, ?_⟩; (try dsimp only)) | ((with_reducible refine ex_len ?_ ?_); (· exact Nat.le_of_ble_eq_true rfl)) | ((with_reducible refine ex_plain ?_); refine ⟨_, rfl, Nat.le_of_ble_eq_true rfl, ?_⟩; (try dsimp only)))
      exact T [] b e he he2
    | cons m ms =>
      refine ifT ?_
      (with_reducible refine ss_consR ?_); repeat (first | (first | ((with_reducible refine r_var ?_); refine ⟨_, rfl, ?_⟩) | with_reducible refine r_cst ?_ | with_reducible refine r_bin ?_ | with_reducible refine r_cmp ?_ | with_reducible refine r_chain ?_ | with_reducible refine r_and ?_ | with_reducible refine r_or ?_ | with_reducible refine r_not ?_ | with_reducible refine r_idx ?_ | with_reducible refine r_idxL ?_ | with_reducible refine r_slice ?_ | with_reducible refine r_len ?_ | with_reducible refine r_isi ?_ | with_reducible refine r_toInt ?_ | with_reducible refine r_all ?_ | with_reducible refine r_tupOf ?_ | with_reducible refine r_wget ?_ | with_reducible refine r_dictOf ?_ | with_reducible refine r_lenset ?_ | with_reducible refine r_call ?_ | with_reducible refine r_tup ?_ | with_reducible refine r_nil ?_ | with_reducible refine r_cons ?_ | with_reducible refine r_disp ?_ | with_reducible refine r_lst ?_ | with_reducible refine r_cat ?_ | with_reducible refine r_of ?_ | with_reducible refine r_eqL ?_ | with_reducible refine r_pop ?_ | with_reducible refine s_asgR ?_ | with_reducible refine s_setR ?_ | with_reducible refine s_retR ?_ | with_reducible refine s_iteR ?_ | with_reducible refine s_unpR ?_ | with_reducible refine ss_nilR ?_ | ((with_reducible refine r_callv ?_); refine ⟨_, rfl, ?_⟩) | ((with_reducible refine r_setD ?_); refine ⟨_, _, rfl, rfl, rfl, ?_⟩) | ((with_reducible refine r_popD ?_); refine ⟨_, _, rfl, ?_⟩)) | with_reducible refine ex_bool ?_ | with_reducible refine ex_eq ?_ | with_reducible refine ex_lt ?_ | with_reducible refine ex_le ?_ | with_reducible refine ex_gt ?_ | with_reducible refine ex_add ?_ | with_reducible refine ex_sub ?_ | ((with_reducible refine ex_mod ?_ ?_); (· first | assumption | decide)) | ((with_reducible refine ex_mulR ?_ ?_); · decide) | ((with_reducible refine ex_mulL ?_ ?_); · decide) | ((with_reducible refine ex_pow ?_ ?_ ?_); (· decide); (· first | omega | decide)) | ((with_reducible refine ex_fdiv ?_ ?_ ?_); (· first | assumption | decide); (· first | assumption | decide)) | ((with_reducible refine ex_get ?_); refine ⟨_, rfl, ?_⟩; (try dsimp only)) | ((with_reducible refine ex_len ?_ ?_); (· exact Nat.le_of_ble_eq_true rfl)) | ((with_reducible refine ex_plain ?_); refine ⟨_, rfl, Nat.le_of_ble_eq_true rfl, ?_⟩; (try dsimp only)))
      refine ⟨_, rfl, ?_⟩
      repeat (first | (first | ((with_reducible refine r_var ?_); refine ⟨_, rfl, ?_⟩) | with_reducible refine r_cst ?_ | with_reducible refine r_bin ?_ | with_reducible refine r_cmp ?_ | with_reducible refine r_chain ?_ | with_reducible refine r_and ?_ | with_reducible refine r_or ?_ | with_reducible refine r_not ?_ | with_reducible refine r_idx ?_ | with_reducible refine r_idxL ?_ | with_reducible refine r_slice ?_ | with_reducible refine r_len ?_ | with_reducible refine r_isi ?_ | with_reducible refine r_toInt ?_ | with_reducible refine r_all ?_ | with_reducible refine r_tupOf ?_ | with_reducible refine r_wget ?_ | with_reducible refine r_dictOf ?_ | with_reducible refine r_lenset ?_ | with_reducible refine r_call ?_ | with_reducible refine r_tup ?_ | with_reducible refine r_nil ?_ | with_reducible refine r_cons ?_ | with_reducible refine r_disp ?_ | with_reducible refine r_lst ?_ | with_reducible refine r_cat ?_ | with_reducible refine r_of ?_ | with_reducible refine r_eqL ?_ | with_reducible refine r_pop ?_ | with_reducible refine s_asgR ?_ | with_reducible refine s_setR ?_ | with_reducible refine s_retR ?_ | with_reducible refine s_iteR ?_ | with_reducible refine s_unpR ?_ | with_reducible refine ss_nilR ?_ | ((with_reducible refine r_callv ?_); refine ⟨_, rfl, ?_⟩) | ((with_reducible refine r_setD ?_); refine ⟨_, _, rfl, rfl, rfl, ?_⟩) | ((with_reducible refine r_popD ?_); refine ⟨_, _, rfl, ?_⟩)) | with_reducible refine ex_bool ?_ | with_reducible refine ex_eq ?_ | with_reducible refine ex_lt ?_ | with_reducible refine ex_le ?_ | with_reducible refine ex_gt ?_ | with_reducible refine ex_add ?_ | with_reducible refine ex_sub ?_ | ((with_reducible refine ex_mod ?_ ?_); (· first | assumption | decide)) | ((with_reducible refine ex_mulR ?_ ?_); · decide) | ((with_reducible refine ex_mulL ?_ ?_); · decide) | ((with_reducible refine ex_pow ?_ ?_ ?_); (· decide); (· first | omega | decide)) | ((with_reducible refine ex_fdiv ?_ ?_ ?_); (· first | assumption | decide); (· first | assumption | decide)) | ((with_reducible refine ex_get ?_); refine ⟨_, rfl, ?_⟩; (try dsimp only)) | ((with_reducible refine ex_len ?_ ?_); (· exact Nat.le_of_ble_eq_true rfl)) | ((with_reducible refine ex_plain ?_); refine ⟨_, rfl, Nat.le_of_ble_eq_true rfl, ?_⟩; (try dsimp only)))
      (with_reducible refine ss_consR ?_); repeat (first | (first | ((with_reducible refine r_var ?_); refine ⟨_, rfl, ?_⟩) | with_reducible refine r_cst ?_ | with_reducible refine r_bin ?_ | with_reducible refine r_cmp ?_ | with_reducible refine r_chain ?_ | with_reducible refine r_and ?_ | with_reducible refine r_or ?_ | with_reducible refine r_not ?_ | with_reducible refine r_idx ?_ | with_reducible refine r_idxL ?_ | with_reducible refine r_slice ?_ | with_reducible refine r_len ?_ | with_reducible refine r_isi ?_ | with_reducible refine r_toInt ?_ | with_reducible refine r_all ?_ | with_reducible refine r_tupOf ?_ | with_reducible refine r_wget ?_ | with_reducible refine r_dictOf ?_ | with_reducible refine r_lenset ?_ | with_reducible refine r_call ?_ | with_reducible refine r_tup ?_ | with_reducible refine r_nil ?_ | with_reducible refine r_cons ?_ | with_reducible refine r_disp ?_ | with_reducible refine r_lst ?_ | with_reducible refine r_cat ?_ | with_reducible refine r_of ?_ | with_reducible refine r_eqL ?_ | with_reducible refine r_pop ?_ | with_reducible refine s_asgR ?_ | with_reducible refine s_setR ?_ | with_reducible refine s_retR ?_ | with_reducible refine s_iteR ?_ | with_reducible refine s_unpR ?_ | with_reducible refine ss_nilR ?_ | ((with_reducible refine r_callv ?_); refine ⟨_, rfl, ?_⟩) | ((with_reducible refine r_setD ?_); refine ⟨_, _, rfl, rfl, rfl, ?_⟩) | ((with_reducible refine r_popD ?_); refine ⟨_, _, rfl, ?_⟩)) | with_reducible refine ex_bool ?_ | with_reducible refine ex_eq ?_ | with_reducible refine ex_lt ?_ | with_reducible refine ex_le ?_ | with_reducible refine ex_gt ?_ | with_reducible refine ex_add ?_ | with_reducible refine ex_sub ?_ | ((with_reducible refine ex_mod ?_ ?_); (· first | assumption | decide)) | ((with_reducible refine ex_mulR ?_ ?_); · decide) | ((with_reducible refine ex_mulL ?_ ?_); · decide) | ((with_reducible refine ex_pow ?_ ?_ ?_); (· decide); (· first | omega | decide)) | ((with_reducible refine ex_fdiv ?_ ?_ ?_); (· first | assumption | decide); (· first | assumption | decide)) | ((with_reducible refine ex_get ?_); refine ⟨_, rfl, ?_⟩; (try dsimp only)) | ((with_reducible refine ex_len ?_ ?_); (· exact Nat.le_of_ble_eq_true rfl)) | ((with_reducible refine ex_plain ?_); refine ⟨_, rfl, Nat.le_of_ble_eq_true rfl, ?_⟩; (try dsimp only)))
      refine ifB (fun h => ?_) (fun h => ?_)
      · (with_reducible refine ss_consR ?_); repeat (first | (first | ((with_reducible refine r_var ?_); refine ⟨_, rfl, ?_⟩) | with_reducible refine r_cst ?_ | with_reducible refine r_bin ?_ | with_reducible refine r_cmp ?_ | with_reducible refine r_chain ?_ | with_reducible refine r_and ?_ | with_reducible refine r_or ?_ | with_reducible refine r_not ?_ | with_reducible refine r_idx ?_ | with_reducible refine r_idxL ?_ | with_reducible refine r_slice ?_ | with_reducible refine r_len ?_ | with_reducible refine r_isi ?_ | with_reducible refine r_toInt ?_ | with_reducible refine r_all ?_ | with_reducible refine r_tupOf ?_ | with_reducible refine r_wget ?_ | with_reducible refine r_dictOf ?_ | with_reducible refine r_lenset ?_ | with_reducible refine r_call ?_ | with_reducible refine r_tup ?_ | with_reducible refine r_nil ?_ | with_reducible refine r_cons ?_ | with_reducible refine r_disp ?_ | with_reducible refine r_lst ?_ | with_reducible refine r_cat ?_ | with_reducible refine r_of ?_ | with_reducible refine r_eqL ?_ | with_reducible refine r_pop ?_ | with_reducible refine s_asgR ?_ | with_reducible refine s_setR ?_ | with_reducible refine s_retR ?_ | with_reducible refine s_iteR ?_ | with_reducible refine s_unpR ?_ | with_reducible refine ss_nilR ?_ | ((with_reducible refine r_callv ?_); refine ⟨_, rfl, ?_⟩) | ((with_reducible refine r_setD ?_); refine ⟨_, _, rfl, rfl, rfl, ?_⟩) | ((with_reducible refine r_popD ?_); refine ⟨_, _, rfl, ?_⟩)) | with_reducible refine ex_bool ?_ | with_reducible refine ex_eq ?_ | with_reducible refine ex_lt ?_ | with_reducible refine ex_le ?_ | with_reducible refine ex_gt ?_ | with_reducible refine ex_add ?_ | with_reducible refine ex_sub ?_ | ((with_reducible refine ex_mod ?_ ?_); (· first | assumption | decide)) | ((with_reducible refine ex_mulR ?_ ?_); · decide) | ((with_reducible refine ex_mulL ?_ ?_); · decide) | ((with_reducible refine ex_pow ?_ ?_ ?_); (· decide); (· first | omega | decide)) | ((with_reducible refine ex_fdiv ?_ ?_ ?_); (· first | assumption | decide); (· first | assumption | decide)) | ((with_reducible refine ex_get ?_); refine ⟨_, rfl, ?_⟩; (try dsimp only)) | ((with_reducible refine ex_len ?_ ?_); (· exact Nat.le_of_ble_eq_true rfl)) | ((with_reducible refine ex_plain ?_); refine ⟨_, rfl, Nat.le_of_ble_eq_true rfl, ?_⟩; (try dsimp only)))
        (with_reducible refine ss_consR ?_); repeat (first | (first | ((with_reducible refine r_var ?_); refine ⟨_, rfl, ?_⟩) | with_reducible refine r_cst ?_ | with_reducible refine r_bin ?_ | with_reducible refine r_cmp ?_ | with_reducible refine r_chain ?_ | with_reducible refine r_and ?_ | with_reducible refine r_or ?_ | with_reducible refine r_not ?_ | with_reducible refine r_idx ?_ | with_reducible refine r_idxL ?_ | with_reducible refine r_slice ?_ | with_reducible refine r_len ?_ | with_reducible refine r_isi ?_ | with_reducible refine r_toInt ?_ | with_reducible refine r_all ?_ | with_reducible refine r_tupOf ?_ | with_reducible refine r_wget ?_ | with_reducible refine r_dictOf ?_ | with_reducible refine r_lenset ?_ | with_reducible refine r_call ?_ | with_reducible refine r_tup ?_ | with_reducible refine r_nil ?_ | with_reducible refine r_cons ?_ | with_reducible refine r_disp ?_ | with_reducible refine r_lst ?_ | with_reducible refine r_cat ?_ | with_reducible refine r_of ?_ | with_reducible refine r_eqL ?_ | with_reducible refine r_pop ?_ | with_reducible refine s_asgR ?_ | with_reducible refine s_setR ?_ | with_reducible refine s_retR ?_ | with_reducible refine s_iteR ?_ | with_reducible refine s_unpR ?_ | with_reducible refine ss_nilR ?_ | ((with_reducible refine r_callv ?_); refine ⟨_, rfl, ?_⟩) | ((with_reducible refine r_setD ?_); refine ⟨_, _, rfl, rfl, rfl, ?_⟩) | ((with_reducible refine r_popD ?_); refine ⟨_, _, rfl, ?_⟩)) | with_reducible refine ex_bool ?_ | with_reducible refine ex_eq ?_ | with_reducible refine ex_lt ?_ | with_reducible refine ex_le ?_ | with_reducible refine ex_gt ?_ | with_reducible refine ex_add ?_ | with_reducible refine ex_sub ?_ | ((with_reducible refine ex_mod ?_ ?_); (· first | assumption | decide)) | ((with_reducible refine ex_mulR ?_ ?_); · decide) | ((with_reducible refine ex_mulL ?_ ?_); · decide) | ((with_reducible refine ex_pow ?_ ?_ ?_); (· decide); (· first | omega | decide)) | ((with_reducible refine ex_fdiv ?_ ?_ ?_); (· first | assumption | decide); (· first | assumption | decide)) | ((with_reducible refine ex_get ?_); refine ⟨_, rfl, ?_⟩; (try dsimp only)) | ((with_reducible refine ex_len ?_ ?_); (· exact Nat.le_of_ble_eq_true rfl)) | ((with_reducible refine ex_plain ?_); refine ⟨_, rfl, Nat.le_of_ble_eq_true rfl, ?_⟩; (try dsimp only)))
        exact T ms 0 _ (Int.emod_nonneg _ (by decide)) (Int.emod_lt_of_pos _ (by decide))
      · repeat (first | (first | ((with_reducible refine r_var ?_); refine ⟨_, rfl, ?_⟩) | with_reducible refine r_cst ?_ | with_reducible refine r_bin ?_ | with_reducible refine r_cmp ?_ | with_reducible refine r_chain ?_ | with_reducible refine r_and ?_ | with_reducible refine r_or ?_ | with_reducible refine r_not ?_ | with_reducible refine r_idx ?_ | with_reducible refine r_idxL ?_ | with_reducible refine r_slice ?_ | with_reducible refine r_len ?_ | with_reducible refine r_isi ?_ | with_reducible refine r_toInt ?_ | with_reducible refine r_all ?_ | with_reducible refine r_tupOf ?_ | with_reducible refine r_wget ?_ | with_reducible refine r_dictOf ?_ | with_reducible refine r_lenset ?_ | with_reducible refine r_call ?_ | with_reducible refine r_tup ?_ | with_reducible refine r_nil ?_ | with_reducible refine r_cons ?_ | with_reducible refine r_disp ?_ | with_reducible refine r_lst ?_ | with_reducible refine r_cat ?_ | with_reducible refine r_of ?_ | with_reducible refine r_eqL ?_ | with_reducible refine r_pop ?_ | with_reducible refine s_asgR ?_ | with_reducible refine s_setR ?_ | with_reducible refine s_retR ?_ | with_reducible refine s_iteR ?_ | with_reducible refine s_unpR ?_ | with_reducible refine ss_nilR ?_ | ((with_reducible refine r_callv ?_); refine ⟨_, rfl, ?_⟩) | ((with_reducible refine r_setD ?_); refine ⟨_, _, rfl, rfl, rfl, ?_⟩) | ((with_reducible refine r_popD ?_); refine ⟨_, _, rfl, ?_⟩)) | with_reducible refine ex_bool ?_ | with_reducible refine ex_eq ?_ | with_reducible refine ex_lt ?_ | with_reducible refine ex_le ?_ | with_reducible refine ex_gt ?_ | with_reducible refine ex_add ?_ | with_reducible refine ex_sub ?_ | ((with_reducible refine ex_mod ?_ ?_); (· first | assumption | decide)) | ((with_reducible refine ex_mulR ?_ ?_); · decide) | ((with_reducible refine ex_mulL ?_ ?_); · decide) | ((with_reducible refine ex_pow ?_ ?_ ?_); (· decide); (· first | omega | decide)) | ((with_reducible refine ex_fdiv ?_ ?_ ?_); (· first | assumption | decide); (· first | assumption | decide)) | ((with_reducible refine ex_get ?_); refine ⟨_, rfl, ?_⟩; (try dsimp only)) | ((with_reducible refine ex_len ?_ ?_); (· exact Nat.le_of_ble_eq_true rfl)) | ((with_reducible refine ex_plain ?_); refine ⟨_, rfl, Nat.le_of_ble_eq_true rfl, ?_⟩; (try dsimp only)))
        exact T ms m e he he2
  · repeat (first | (first | ((with_reducible refine r_var ?_); refine ⟨_, rfl, ?_⟩) | with_reducible refine r_cst ?_ | with_reducible refine r_bin ?_ | with_reducible refine r_cmp ?_ | with_reducible refine r_chain ?_ | with_reducible refine r_and ?_ | with_reducible refine r_or ?_ | with_reducible refine r_not ?_ | with_reducible refine r_idx ?_ | with_reducible refine r_idxL ?_ | with_reducible refine r_slice ?_ | with_reducible refine r_len ?_ | with_reducible refine r_isi ?_ | with_reducible refine r_toInt ?_ | with_reducible refine r_all ?_ | with_reducible refine r_tupOf ?_ | with_reducible refine r_wget ?_ | with_reducible refine r_dictOf ?_ | with_reducible refine r_lenset ?_ | with_reducible refine r_call ?_ | with_reducible refine r_tup ?_ | with_reducible refine r_nil ?_ | with_reducible refine r_cons ?_ | with_reducible refine r_disp ?_ | with_reducible refine r_lst ?_ | with_reducible refine r_cat ?_ | with_reducible refine r_of ?_ | with_reducible refine r_eqL ?_ | with_reducible refine r_pop ?_ | with_reducible refine s_asgR ?_ | with_reducible refine s_setR ?_ | with_reducible refine s_retR ?_ | with_reducible refine s_iteR ?_ | with_reducible refine s_unpR ?_ | with_reducible refine ss_nilR ?_ | ((with_reducible refine r_callv ?_); refine ⟨_, rfl, ?_⟩) | ((with_reducible refine r_setD ?_); refine ⟨_, _, rfl, rfl, rfl, ?_⟩) | ((with_reducible refine r_popD ?_); refine ⟨_, _, rfl, ?_⟩)) | with_reducible refine ex_bool ?_ | with_reducible refine ex_eq ?_ | with_reducible refine ex_lt ?_ | with_reducible refine ex_le ?_ | with_reducible refine ex_gt ?_ | with_reducible refine ex_add ?_ | with_reducible refine ex_sub ?_ | ((with_reducible refine ex_mod ?_ ?_); (· first | assumption | decide)) | ((with_reducible refine ex_mulR ?_ ?_); · decide) | ((with_reducible refine ex_mulL ?_ ?_); · decide) | ((with_reducible refine ex_pow ?_ ?_ ?_); (· decide); (· first | omega | decide)) | ((with_reducible refine ex_fdiv ?_ ?_ ?_); (· first | assumption | decide); (· first | assumption | decide)) | ((with_reducible refine ex_get ?_); refine ⟨_, rfl, ?_⟩; (try dsimp only)) | ((with_reducible refine ex_len ?_ ?_); (· exact Nat.le_of_ble_eq_true rfl)) | ((with_reducible refine ex_plain ?_); refine ⟨_, rfl, Nat.le_of_ble_eq_true rfl, ?_⟩; (try dsimp only)))
    refine ifF ?_
    repeat (first | (first | ((with_reducible refine r_var ?_); refine ⟨_, rfl, ?_⟩) | with_reducible refine r_cst ?_ | with_reducible refine r_bin ?_ | with_reducible refine r_cmp ?_ | with_reducible refine r_chain ?_ | with_reducible refine r_and ?_ | with_reducible refine r_or ?_ | with_reducible refine r_not ?_ | with_reducible refine r_idx ?_ | with_reducible refine r_idxL ?_ | with_reducible refine r_slice ?_ | with_reducible refine r_len ?_ | with_reducible refine r_isi ?_ | with_reducible refine r_toInt ?_ | with_reducible refine r_all ?_ | with_reducible refine r_tupOf ?_ | with_reducible refine r_wget ?_ | with_reducible refine r_dictOf ?_ | with_reducible refine r_lenset ?_ | with_reducible refine r_call ?_ | with_reducible refine r_tup ?_ | with_reducible refine r_nil ?_ | with_reducible refine r_cons ?_ | with_reducible refine r_disp ?_ | with_reducible refine r_lst ?_ | with_reducible refine r_cat ?_ | with_reducible refine r_of ?_ | with_reducible refine r_eqL ?_ | with_reducible refine r_pop ?_ | with_reducible refine s_asgR ?_ | with_reducible refine s_setR ?_ | with_reducible refine s_retR ?_ | with_reducible refine s_iteR ?_ | with_reducible refine s_unpR ?_ | with_reducible refine ss_nilR ?_ | ((with_reducible refine r_callv ?_); refine ⟨_, rfl, ?_⟩) | ((with_reducible refine r_setD ?_); refine ⟨_, _, rfl, rfl, rfl, ?_⟩) | ((with_reducible refine r_popD ?_); refine ⟨_, _, rfl, ?_⟩)) | with_reducible refine ex_bool ?_ | with_reducible refine ex_eq ?_ | with_reducible refine ex_lt ?_ | with_reducible refine ex_le ?_ | with_reducible refine ex_gt ?_ | with_reducible refine ex_add ?_ | with_reducible refine ex_sub ?_ | ((with_reducible refine ex_mod ?_ ?_); (· first | assumption | decide)) | ((with_reducible refine ex_mulR ?_ ?_); · decide) | ((with_reducible refine ex_mulL ?_ ?_); · decide) | ((with_reducible refine ex_pow ?_ ?_ ?_); (· decide); (· first | omega | decide)) | ((with_reducible refine ex_fdiv ?_ ?_ ?_); (· first | assumption | decide); (· first | assumption | decide)) | ((with_reducible refine ex_get ?_); refine ⟨_, rfl, ?_⟩; (try dsimp only)) | ((with_reducible refine ex_len ?_ ?_); (· exact Nat.le_of_ble_eq_true rfl)) | ((with_reducible refine ex_plain ?_); refine ⟨_, rfl, Nat.le_of_ble_eq_true rfl, ?_⟩; (try dsimp only)))
    exact T ms b e he he2
theorem wp_ex {α : Type} {o : Out α} {ok : α → Sto → Prop} (h : wp o ok (fun _ _ => False)) : ∃ a S', o = .val a S' ∧ ok a S' := by
  cases o with
  | val a S' => exact ⟨a, S', rfl, h⟩
  | exc _ _ => exact h.elim
  | bad => exact h.elim
theorem dInv_len {N : Int} {R S : Sto} (h : dInv N R S) : S.length = R.length + 2 := by
  obtain ⟨ms, b, c, e, rfl, _⟩ := h
  simp
theorem dInv_mono {N M : Int} {R S : Sto} (h : dInv N R S) (l : N ≤ M) : dInv M R S := by
  obtain ⟨ms, b, c, e, e1, h1, h2, h3⟩ := h
  exact ⟨ms, b, c, e, e1, h1, by omega, h3⟩
theorem dInv_get {N : Int} {R S : Sto} (h : dInv N R S) (j : Nat) : S[j + 2]? = R[j]? := by
  obtain ⟨ms, b, c, e, rfl, _⟩ := h
  rfl
theorem dInv_app {N : Int} {R S : Sto} (h : dInv N R S) (T : Sto) : dInv N (R ++ T) (S ++ T) := by
  obtain ⟨ms, b, c, e, rfl, h1⟩ := h
  exact ⟨ms, b, c, e, rfl, h1⟩
theorem dInv_set {N : Int} {R S : Sto} (h : dInv N R S) (j : Nat) (o : MO) : dInv N (R.set j o) (S.set (j + 2) o) := by
  obtain ⟨ms, b, c, e, rfl, h1⟩ := h
  exact ⟨ms, b, c, e, rfl, h1⟩
theorem dInv_take {N : Int} {R T S : Sto} (h : dInv N (R ++ T) S) : dInv N R (S.take (R.length + 2)) := by
  obtain ⟨ms, b, c, e, rfl, h1⟩ := h
  refine ⟨ms, b, c, e, ?_, h1⟩
  show dInts ms :: st4 b c e :: (R ++ T).take R.length = _
  rw [app_take]
theorem dInv_take' {N : Int} {R S : Sto} (h : dInv N R S) : S.take (R.length + 2) = S := by
  rw [← dInv_len h, List.take_length]
theorem cDraw (k : Nat) : calK fs (k + 1) 2 = callF (calK fs k) ⟨2, 3, b2⟩ := rfl
theorem draw_ok (k : Nat) {R S : Sto} {N many : Int} (h : dInv N R S) (hN : N ≤ 5000000) (hm : 0 < many) (hm2 : many ≤ 1000000000000) :
    ∃ r S', calK fs (k + 1) 2 [.ref 1, .p (.int many)] S = .val (.p (.int r)) S' ∧ 0 ≤ r ∧ r < many ∧ dInv (N + 1) R S' := by
  have hl := dInv_len h
  have hlog : many.natAbs.log2 < 9000 := by
    have : many.natAbs.log2 < 41 := by
      refine (Nat.log2_lt (by omega)).mpr ?_
      have : (2 : Nat) ^ 41 = 2199023255552 := by decide
      omega
    omega
  have W : wp (calK fs (k + 1) 2 [.ref 1, .p (.int many)] S) (fun d S' => ∃ r, d = .p (.int r) ∧ 0 ≤ r ∧ r < many ∧ dInv (N + 1) R S') (fun _ _ => False) := by
    show wp (callF (calK fs k) ⟨2, 3, b2⟩ _ S) _ _
    refine call_wp rfl ?_
    obtain ⟨ms, b, c, e, rfl, h1, h2, h3, h4⟩ := id h
    refine wp_mono (draw_body (calK fs k) ms R b c e many hm hlog h1 (by omega) h3 h4 N h2) (fun x S' q => ?_) fun _ _ z => z
    obtain ⟨r, e1, h5, h6, h7⟩ := q
    refine ⟨_, e1, r, rfl, h5, h6, ?_⟩
    rw [hl, dInv_take' h7]
    exact h7
  obtain ⟨d, S', e, r, rfl, h1, h2, h3⟩ := wp_ex W
  exact ⟨r, S', e, h1, h2, h3⟩
theorem pick {A : Type} (ds : List A) {r : Int} (h0 : 0 ≤ r) (h1 : r < ds.length) : ∃ d, L2.atI ds r = some d ∧ d ∈ ds := by
  obtain ⟨n, rfl⟩ : ∃ n : Nat, r = n := ⟨r.toNat, by omega⟩
  have hlt : n < ds.length := by omega
  refine ⟨ds[n], ?_, List.getElem_mem hlt⟩
  simp [L2.atI, L2.ixN, hlt]
/-- a comprehension whose turns change the store, by what each turn keeps -/
theorem l_lc_inv {cal : Nat → List D → M D} {it : Wi} {tg : List Nat} {one : Bool} {elt : E} {ρ : Sl} {S S0 : Sto} {ds : List D} (hi : evI cal it ρ S0 = .val (.fix ds) S) (hl : ds.length ≤ 100000) (I : Nat → Sto → Prop) (P : D → Prop) (h0 : I 0 S)
    (step : ∀ i d S, ds[i]? = some d → I i S → ∃ ρ' e S', tgt tg one d (wipeD ρ tg) = some ρ' ∧ evE cal elt ρ' S = .val e S' ∧ P e ∧ I (i + 1) S') :
    ∃ es S', evL cal (.lc it tg one elt) ρ S0 = .val es S' ∧ es.length = ds.length ∧ (∀ e ∈ es, P e) ∧ I ds.length S' := by
  obtain ⟨es, S', e1, e2, e3⟩ := lc_inv (ds := ds) (body := fun d => M.calm (match tgt tg one d (wipeD ρ tg) with
        | some ρ' => evE cal elt ρ'
        | none => M.bad)) I (fun _ d => P d) (fun i d S hd hS => by
    obtain ⟨ρ', e, S', h1, h2, h3, h4⟩ := step i d S hd hS
    exact ⟨e, S', calm_val (by rw [h1]; exact h2), h3, h4⟩) ds.length 0 [] S (by omega) h0
  refine ⟨es, S', ?_, ?_, ?_, e3⟩
  · refine (show _ = (evI cal it ρ S0).then (fun src S1 => match src.size S1 with
      | some n => if n ≤ 100000 then lcGo src _ n 0 [] S1 else .bad
      | none => .bad) from rfl).trans ?_
    rw [hi]
    show (if ds.length ≤ 100000 then lcGo _ _ ds.length 0 [] S else .bad) = _
    rw [if_pos hl]
    exact e1
  · have := Paired.length e2
    rw [List.drop_zero] at this
    exact this.symm
  · have : ∀ {ds es : List D}, Paired (fun _ d => P d) ds es → ∀ e ∈ es, P e := by
      intro ds es p
      induction p with
      | nil => exact fun e he => nomatch he
      | cons x y ih => exact fun e he => by rcases List.mem_cons.mp he with rfl | he; exact x; exact ih e he
    exact this e2
theorem strs_of {P : Str → Prop} : ∀ {es : List D}, (∀ e ∈ es, ∃ z : Str, e = .p (.str z) ∧ P z) → ∃ zs : List Str, es = zs.map (fun z => D.p (.str z)) ∧ ∀ z ∈ zs, P z
  | [], _ => ⟨[], rfl, fun z hz => nomatch hz⟩
  | e :: es, h => by
    obtain ⟨z, rfl, hz⟩ := h e (List.mem_cons_self ..)
    obtain ⟨zs, rfl, hs⟩ := strs_of fun q hq => h q (List.mem_cons_of_mem _ hq)
    exact ⟨z :: zs, rfl, fun q hq => by rcases List.mem_cons.mp hq with rfl | hq; exact hz; exact hs q hq⟩
end Ir.K26
set_option Elab.async false
set_option linter.all false
set_option maxRecDepth 100000
set_option maxHeartbeats 4000001
namespace Ir.K26
open PySem
abbrev fz : Str → D := fun z => .p (.str z)
/-- a text that can be laid -/
def Ly (z : Str) : Prop := PyData.canLay0 (.str z) = true
theorem lay_all : ∀ zs : List Str, (∀ z ∈ zs, Ly z) → PyData.canLayAll0 (zs.map PyData.str) = true ∧ PyData.depthAll (zs.map PyData.str) = 0
  | [], _ => ⟨rfl, rfl⟩
  | z :: zs, h => by
    obtain ⟨h1, h2⟩ := lay_all zs fun q hq => h q (List.mem_cons_of_mem _ hq)
    have h3 : PyData.canLay0 (.str z) = true := h z (List.mem_cons_self ..)
    refine ⟨?_, ?_⟩
    · simp only [List.map_cons, PyData.canLayAll0, h3, h1, Bool.and_self]
    · simp only [List.map_cons, PyData.depthAll, PyData.depth, h2, Nat.max_self]
theorem sh_tup {zs : List Str} (h : ∀ z ∈ zs, Ly z) : SeqAt.shaped (.tuple (zs.map .str)) = true := by
  obtain ⟨h1, h2⟩ := lay_all zs h
  simp [SeqAt.shaped, PyData.canLay0, PyData.depth, h1, h2]
theorem sh_str {z : Str} (h : Ly z) : SeqAt.shaped (.str z) = true := by
  have h3 : PyData.canLay0 (.str z) = true := h
  simp [SeqAt.shaped, h3, PyData.depth]
theorem eqv_str (x y : Str) : PyData.eqv (.str x) (.str y) = decide (x = y) := by
  by_cases h : x = y <;> simp [PyData.eqv, h]
theorem eqv_all : ∀ zs ws : List Str, PyData.eqvAll (zs.map .str) (ws.map .str) = decide (zs = ws)
  | [], [] => rfl
  | [], w :: ws => by simp [PyData.eqvAll]
  | z :: zs, [] => by simp [PyData.eqvAll]
  | z :: zs, w :: ws => by
    simp only [List.map_cons, PyData.eqvAll, eqv_str, eqv_all zs ws]
    by_cases h : z = w <;> by_cases h2 : zs = ws <;> simp [h, h2]
inductive Mk where
  | any | num
  | tup (zs : List Str)
def Mk.py : Mk → PyData
  | .any => .str "any"
  | .num => .str "num"
  | .tup zs => .tuple (zs.map .str)
structure TOk (B zs : List Str) : Prop where
  ly : ∀ z ∈ zs, Ly z
  of : zs = B.filter fun z => decide (z ∈ zs)
def Mk.Ok (B : List Str) : Mk → Prop
  | .tup zs => TOk B zs
  | _ => True
def eqM : Mk → Mk → Bool
  | .any, .any => true
  | .num, .num => true
  | .tup zs, .tup ws => decide (zs = ws)
  | _, _ => false
def covM : Mk → Mk → Bool
  | .any, _ => true
  | .num, .num => true
  | .tup zs, .tup ws => zs.all fun z => decide (z ∈ ws)
  | _, _ => false
def comM : Mk → Mk → Mk
  | .num, .num => .num
  | .tup zs, .tup ws => .tup (zs.filter fun z => decide (z ∈ ws))
  | _, _ => .any
theorem ly_any : Ly "any" := by unfold Ly; decide +kernel
theorem ly_num : Ly "num" := by unfold Ly; decide +kernel
theorem ne_an : decide (("any" : Str) = "num") = false := by decide +kernel
theorem ne_na : decide (("num" : Str) = "any") = false := by decide +kernel
theorem eq_py {B : List Str} {a b : Mk} (ha : a.Ok B) (hb : b.Ok B) : eqD (.p a.py) (.p b.py) = some (eqM a b) := by
  cases a <;> cases b
  · rfl
  · show eqD (.p (.str "any")) (.p (.str "num")) = some false
    rw [eqD_str, ne_an]
  · show (if SeqAt.shaped (.str "any") && SeqAt.shaped (.tuple _) then some (PyData.eqv (.str "any") (.tuple _)) else none) = _
    rw [sh_str ly_any, sh_tup hb.ly]
    rfl
  · show eqD (.p (.str "num")) (.p (.str "any")) = some false
    rw [eqD_str, ne_na]
  · rfl
  · show (if SeqAt.shaped (.str "num") && SeqAt.shaped (.tuple _) then some (PyData.eqv (.str "num") (.tuple _)) else none) = _
    rw [sh_str ly_num, sh_tup hb.ly]
    rfl
  · show (if SeqAt.shaped (.tuple _) && SeqAt.shaped (.str "any") then some (PyData.eqv (.tuple _) (.str "any")) else none) = _
    rw [sh_str ly_any, sh_tup ha.ly]
    rfl
  · show (if SeqAt.shaped (.tuple _) && SeqAt.shaped (.str "num") then some (PyData.eqv (.tuple _) (.str "num")) else none) = _
    rw [sh_str ly_num, sh_tup ha.ly]
    rfl
  · rename_i zs ws
    show (if SeqAt.shaped (.tuple _) && SeqAt.shaped (.tuple _) then some (PyData.eqv (.tuple (zs.map .str)) (.tuple (ws.map .str))) else none) = _
    rw [sh_tup ha.ly, sh_tup hb.ly]
    show some (PyData.eqvAll (zs.map .str) (ws.map .str)) = _
    rw [eqv_all]
    rfl
theorem in_tup (S : Sto) (z : Str) (ws : List Str) : inD S (fz z) (.p (.tuple (ws.map .str))) = some (decide (z ∈ ws)) := by
  show (if flatP (.str z) && (ws.map PyData.str).all flatP then some ((ws.map PyData.str).any fun y => PyData.eqv y (.str z)) else none) = _
  have e : (ws.map PyData.str).all flatP = true := by
    rw [List.all_map]
    exact List.all_eq_true.mpr fun _ _ => rfl
  rw [e]
  show some ((ws.map PyData.str).any fun y => PyData.eqv y (.str z)) = _
  rw [List.any_map]
  have e2 : ((fun y => PyData.eqv y (.str z)) ∘ PyData.str) = fun y => decide (y = z) := by
    funext a
    exact eqv_str a z
  rw [e2]
  congr 1
  induction ws with
  | nil => rfl
  | cons w ws ih =>
    have ih := ih (by rw [List.all_map]; exact List.all_eq_true.mpr fun _ _ => rfl)
    rw [List.any_cons, ih]
    by_cases h : w = z
    · subst h; simp
    · have h' : ¬ z = w := fun e => h e.symm
      simp [h, h']
theorem cop_eq (S : Sto) (x y : D) : cop S .eq x y = eqD x y := rfl
theorem cop_ne (S : Sto) (x y : D) : cop S .ne x y = (eqD x y).map (!·) := rfl
theorem cop_in (S : Sto) (x y : D) : cop S .in_ x y = inD S x y := rfl
theorem bools_all (f : Str → Bool) : ∀ zs : List Str, boolsOf (zs.map fun z => D.p (.bool (f z))) = some (zs.map f)
  | [] => rfl
  | z :: zs => by
    show (boolsOf (zs.map fun z => D.p (.bool (f z)))).map (f z :: ·) = _
    rw [bools_all f zs]
    rfl
theorem all_lc (cal : Nat → List D → M D) (zs ws : List Str) (S : Sto) (hl : zs.length ≤ 100000) :
    evL cal (.lc (.tup (.var 0)) [2] true (.cmp .in_ (.var 2) (.var 1))) [some (.p (.tuple (zs.map .str))), some (.p (.tuple (ws.map .str))), none] S = .val (zs.map fun z => D.p (.bool (decide (z ∈ ws)))) S := by
  have e0 : srcTup (.p (.tuple (zs.map .str))) = some (.fix (zs.map fz)) := by
    show some (Src.fix ((zs.map PyData.str).map D.p)) = _
    rw [List.map_map]
    rfl
  have := l_lc_fix (cal := cal) (it := .tup (.var 0)) (tg := [2]) (one := true) (elt := .cmp .in_ (.var 2) (.var 1)) (ρ := [some (.p (.tuple (zs.map .str))), some (.p (.tuple (ws.map .str))), none]) (S := S) (S1 := S) (ds := zs.map fz)
    (f := fun d => match d with | .p (.str z) => .p (.bool (decide (z ∈ ws))) | d => d) (by simp -dsimp only [Ir.then_val, Ir.optA_some, Ir.boolA_t, Ir.boolA_f, Ir.seqA_next, Ir.seqA_ret, Ir.wp_val_, Ir.v_var, Ir.v_cst, Ir.v_bin, Ir.v_cmp, Ir.v_chain, Ir.v_and, Ir.v_or, Ir.v_not, Ir.v_ifx, Ir.v_neg, Ir.v_call, Ir.v_tup, Ir.v_lst, Ir.v_idx, Ir.v_idxL, Ir.v_slice, Ir.v_strOf, Ir.v_join, Ir.v_extend, Ir.v_append, Ir.v_len, Ir.v_isi, Ir.v_toInt, Ir.v_all, Ir.v_tupOf, Ir.v_dictOf, Ir.v_dlit, Ir.v_dget3, Ir.v_eqL, Ir.v_op1, Ir.v_op2, Ir.v_fstr, Ir.f_nil, Ir.f_cons, Ir.a_nil', Ir.a_cons', Ir.a_star', Ir.l_disp', Ir.l_of', Ir.l_cat', Ir.l_cut', Ir.b_no', Ir.b_at', Ir.i_tup', Ir.i_lst', Ir.i_str', Ir.i_rng', Ir.ss_nil', Ir.ss_asg, Ir.ss_expr, Ir.ss_ret, Ir.ss_unp, Ir.ss_ite, Ir.ss_setI, Ir.ss_for, Ir.finA_p, Ir.strD_str, Ir.ofD_tup, Ir.dicAt_eq, Ir.lstAt_eq, Ir.dget3_str, Ir.dixD_int, Ir.srcLst_eq, Ir.ofD_ref, Ir.tupD_ref, Ir.lenD_ref, Ir.lenD_tup, Ir.getI_ref, Ir.lsA_lst, Ir.ifA_t, Ir.appD_eq, Ir.extD_eq, Ir.catD_eq, Ir.rb_p, decide_true, decide_false, Bool.true_and, Bool.and_true, Ir.atA_no, Ir.atA_go, Ir.contA_next, Ir.contA_ret, Ir.size_fix, Ir.size_dyn, Ir.at_fix, Ir.at_dyn, Ir.turn_one, List.length_map, List.getElem?_nil, Ir.tgt, Ir.setAll, Bool.false_eq_true, List.set_nil, List.getElem?_cons_zero, List.getElem?_cons_succ, List.set_cons_zero, List.set_cons_succ, List.map_cons, List.map_nil, List.length_cons, List.length_nil, List.replicate_succ, List.replicate_zero, List.cons_append, List.nil_append, Option.map_some, Option.bind_some, Ir.app_get, Ir.app_get0, Ir.app_set, Ir.app_set0, Ir.app_take, Ir.app_one, Ir.len_app, Nat.reduceAdd, Nat.reduceSub, Nat.reduceLeDiff, if_true, if_false, e0]) (by rw [List.length_map]; exact hl) (fun d hd => by
      obtain ⟨z, hz, rfl⟩ := List.mem_map.mp hd
      refine ⟨_, rfl, ?_⟩
      simp -dsimp only [Ir.then_val, Ir.optA_some, Ir.boolA_t, Ir.boolA_f, Ir.seqA_next, Ir.seqA_ret, Ir.wp_val_, Ir.v_var, Ir.v_cst, Ir.v_bin, Ir.v_cmp, Ir.v_chain, Ir.v_and, Ir.v_or, Ir.v_not, Ir.v_ifx, Ir.v_neg, Ir.v_call, Ir.v_tup, Ir.v_lst, Ir.v_idx, Ir.v_idxL, Ir.v_slice, Ir.v_strOf, Ir.v_join, Ir.v_extend, Ir.v_append, Ir.v_len, Ir.v_isi, Ir.v_toInt, Ir.v_all, Ir.v_tupOf, Ir.v_dictOf, Ir.v_dlit, Ir.v_dget3, Ir.v_eqL, Ir.v_op1, Ir.v_op2, Ir.v_fstr, Ir.f_nil, Ir.f_cons, Ir.a_nil', Ir.a_cons', Ir.a_star', Ir.l_disp', Ir.l_of', Ir.l_cat', Ir.l_cut', Ir.b_no', Ir.b_at', Ir.i_tup', Ir.i_lst', Ir.i_str', Ir.i_rng', Ir.ss_nil', Ir.ss_asg, Ir.ss_expr, Ir.ss_ret, Ir.ss_unp, Ir.ss_ite, Ir.ss_setI, Ir.ss_for, Ir.finA_p, Ir.strD_str, Ir.ofD_tup, Ir.dicAt_eq, Ir.lstAt_eq, Ir.dget3_str, Ir.dixD_int, Ir.srcLst_eq, Ir.ofD_ref, Ir.tupD_ref, Ir.lenD_ref, Ir.lenD_tup, Ir.getI_ref, Ir.lsA_lst, Ir.ifA_t, Ir.appD_eq, Ir.extD_eq, Ir.catD_eq, Ir.rb_p, decide_true, decide_false, Bool.true_and, Bool.and_true, Ir.atA_no, Ir.atA_go, Ir.contA_next, Ir.contA_ret, Ir.size_fix, Ir.size_dyn, Ir.at_fix, Ir.at_dyn, Ir.turn_one, List.length_map, List.getElem?_nil, Ir.tgt, Ir.setAll, Bool.false_eq_true, List.set_nil, List.getElem?_cons_zero, List.getElem?_cons_succ, List.set_cons_zero, List.set_cons_succ, List.map_cons, List.map_nil, List.length_cons, List.length_nil, List.replicate_succ, List.replicate_zero, List.cons_append, List.nil_append, Option.map_some, Option.bind_some, Ir.app_get, Ir.app_get0, Ir.app_set, Ir.app_set0, Ir.app_take, Ir.app_one, Ir.len_app, Nat.reduceAdd, Nat.reduceSub, Nat.reduceLeDiff, if_true, if_false, wipeD, cop_in, in_tup])
  rw [this, List.map_map]
  rfl
theorem flt_lc (cal : Nat → List D → M D) (zs ws : List Str) (S : Sto) (hl : zs.length ≤ 100000) :
    evL cal (.lcf (.tup (.var 0)) [2] true (.cmp .in_ (.var 2) (.var 1)) (.var 2)) [some (.p (.tuple (zs.map .str))), some (.p (.tuple (ws.map .str))), none] S = .val ((zs.filter fun z => decide (z ∈ ws)).map fz) S := by
  have e0 : srcTup (.p (.tuple (zs.map .str))) = some (.fix (zs.map fz)) := by
    show some (Src.fix ((zs.map PyData.str).map D.p)) = _
    rw [List.map_map]
    rfl
  rw [lcf_at (src := .fix (zs.map fz)) (S1 := S) (n := zs.length) (by simp -dsimp only [Ir.then_val, Ir.optA_some, Ir.boolA_t, Ir.boolA_f, Ir.seqA_next, Ir.seqA_ret, Ir.wp_val_, Ir.v_var, Ir.v_cst, Ir.v_bin, Ir.v_cmp, Ir.v_chain, Ir.v_and, Ir.v_or, Ir.v_not, Ir.v_ifx, Ir.v_neg, Ir.v_call, Ir.v_tup, Ir.v_lst, Ir.v_idx, Ir.v_idxL, Ir.v_slice, Ir.v_strOf, Ir.v_join, Ir.v_extend, Ir.v_append, Ir.v_len, Ir.v_isi, Ir.v_toInt, Ir.v_all, Ir.v_tupOf, Ir.v_dictOf, Ir.v_dlit, Ir.v_dget3, Ir.v_eqL, Ir.v_op1, Ir.v_op2, Ir.v_fstr, Ir.f_nil, Ir.f_cons, Ir.a_nil', Ir.a_cons', Ir.a_star', Ir.l_disp', Ir.l_of', Ir.l_cat', Ir.l_cut', Ir.b_no', Ir.b_at', Ir.i_tup', Ir.i_lst', Ir.i_str', Ir.i_rng', Ir.ss_nil', Ir.ss_asg, Ir.ss_expr, Ir.ss_ret, Ir.ss_unp, Ir.ss_ite, Ir.ss_setI, Ir.ss_for, Ir.finA_p, Ir.strD_str, Ir.ofD_tup, Ir.dicAt_eq, Ir.lstAt_eq, Ir.dget3_str, Ir.dixD_int, Ir.srcLst_eq, Ir.ofD_ref, Ir.tupD_ref, Ir.lenD_ref, Ir.lenD_tup, Ir.getI_ref, Ir.lsA_lst, Ir.ifA_t, Ir.appD_eq, Ir.extD_eq, Ir.catD_eq, Ir.rb_p, decide_true, decide_false, Bool.true_and, Bool.and_true, Ir.atA_no, Ir.atA_go, Ir.contA_next, Ir.contA_ret, Ir.size_fix, Ir.size_dyn, Ir.at_fix, Ir.at_dyn, Ir.turn_one, List.length_map, List.getElem?_nil, Ir.tgt, Ir.setAll, Bool.false_eq_true, List.set_nil, List.getElem?_cons_zero, List.getElem?_cons_succ, List.set_cons_zero, List.set_cons_succ, List.map_cons, List.map_nil, List.length_cons, List.length_nil, List.replicate_succ, List.replicate_zero, List.cons_append, List.nil_append, Option.map_some, Option.bind_some, Ir.app_get, Ir.app_get0, Ir.app_set, Ir.app_set0, Ir.app_take, Ir.app_one, Ir.len_app, Nat.reduceAdd, Nat.reduceSub, Nat.reduceLeDiff, if_true, if_false, e0]) (by rw [size_fix, List.length_map]) hl]
  rw [lcf_pure (ds := zs.map fz) (g := fun d => match d with | .p (.str z) => if decide (z ∈ ws) = true then some (.p (.str z)) else none | d => none) (fun i => rfl) (fun d hd => by
    obtain ⟨z, hz, rfl⟩ := List.mem_map.mp hd
    refine lcfB_ok (S1 := S) rfl ?_ ?_ ?_
    · simp -dsimp only [Ir.then_val, Ir.optA_some, Ir.boolA_t, Ir.boolA_f, Ir.seqA_next, Ir.seqA_ret, Ir.wp_val_, Ir.v_var, Ir.v_cst, Ir.v_bin, Ir.v_cmp, Ir.v_chain, Ir.v_and, Ir.v_or, Ir.v_not, Ir.v_ifx, Ir.v_neg, Ir.v_call, Ir.v_tup, Ir.v_lst, Ir.v_idx, Ir.v_idxL, Ir.v_slice, Ir.v_strOf, Ir.v_join, Ir.v_extend, Ir.v_append, Ir.v_len, Ir.v_isi, Ir.v_toInt, Ir.v_all, Ir.v_tupOf, Ir.v_dictOf, Ir.v_dlit, Ir.v_dget3, Ir.v_eqL, Ir.v_op1, Ir.v_op2, Ir.v_fstr, Ir.f_nil, Ir.f_cons, Ir.a_nil', Ir.a_cons', Ir.a_star', Ir.l_disp', Ir.l_of', Ir.l_cat', Ir.l_cut', Ir.b_no', Ir.b_at', Ir.i_tup', Ir.i_lst', Ir.i_str', Ir.i_rng', Ir.ss_nil', Ir.ss_asg, Ir.ss_expr, Ir.ss_ret, Ir.ss_unp, Ir.ss_ite, Ir.ss_setI, Ir.ss_for, Ir.finA_p, Ir.strD_str, Ir.ofD_tup, Ir.dicAt_eq, Ir.lstAt_eq, Ir.dget3_str, Ir.dixD_int, Ir.srcLst_eq, Ir.ofD_ref, Ir.tupD_ref, Ir.lenD_ref, Ir.lenD_tup, Ir.getI_ref, Ir.lsA_lst, Ir.ifA_t, Ir.appD_eq, Ir.extD_eq, Ir.catD_eq, Ir.rb_p, decide_true, decide_false, Bool.true_and, Bool.and_true, Ir.atA_no, Ir.atA_go, Ir.contA_next, Ir.contA_ret, Ir.size_fix, Ir.size_dyn, Ir.at_fix, Ir.at_dyn, Ir.turn_one, List.length_map, List.getElem?_nil, Ir.tgt, Ir.setAll, Bool.false_eq_true, List.set_nil, List.getElem?_cons_zero, List.getElem?_cons_succ, List.set_cons_zero, List.set_cons_succ, List.map_cons, List.map_nil, List.length_cons, List.length_nil, List.replicate_succ, List.replicate_zero, List.cons_append, List.nil_append, Option.map_some, Option.bind_some, Ir.app_get, Ir.app_get0, Ir.app_set, Ir.app_set0, Ir.app_take, Ir.app_one, Ir.len_app, Nat.reduceAdd, Nat.reduceSub, Nat.reduceLeDiff, if_true, if_false, wipeD, cop_in, in_tup]
    · intro _; simp -dsimp only [Ir.then_val, Ir.optA_some, Ir.boolA_t, Ir.boolA_f, Ir.seqA_next, Ir.seqA_ret, Ir.wp_val_, Ir.v_var, Ir.v_cst, Ir.v_bin, Ir.v_cmp, Ir.v_chain, Ir.v_and, Ir.v_or, Ir.v_not, Ir.v_ifx, Ir.v_neg, Ir.v_call, Ir.v_tup, Ir.v_lst, Ir.v_idx, Ir.v_idxL, Ir.v_slice, Ir.v_strOf, Ir.v_join, Ir.v_extend, Ir.v_append, Ir.v_len, Ir.v_isi, Ir.v_toInt, Ir.v_all, Ir.v_tupOf, Ir.v_dictOf, Ir.v_dlit, Ir.v_dget3, Ir.v_eqL, Ir.v_op1, Ir.v_op2, Ir.v_fstr, Ir.f_nil, Ir.f_cons, Ir.a_nil', Ir.a_cons', Ir.a_star', Ir.l_disp', Ir.l_of', Ir.l_cat', Ir.l_cut', Ir.b_no', Ir.b_at', Ir.i_tup', Ir.i_lst', Ir.i_str', Ir.i_rng', Ir.ss_nil', Ir.ss_asg, Ir.ss_expr, Ir.ss_ret, Ir.ss_unp, Ir.ss_ite, Ir.ss_setI, Ir.ss_for, Ir.finA_p, Ir.strD_str, Ir.ofD_tup, Ir.dicAt_eq, Ir.lstAt_eq, Ir.dget3_str, Ir.dixD_int, Ir.srcLst_eq, Ir.ofD_ref, Ir.tupD_ref, Ir.lenD_ref, Ir.lenD_tup, Ir.getI_ref, Ir.lsA_lst, Ir.ifA_t, Ir.appD_eq, Ir.extD_eq, Ir.catD_eq, Ir.rb_p, decide_true, decide_false, Bool.true_and, Bool.and_true, Ir.atA_no, Ir.atA_go, Ir.contA_next, Ir.contA_ret, Ir.size_fix, Ir.size_dyn, Ir.at_fix, Ir.at_dyn, Ir.turn_one, List.length_map, List.getElem?_nil, Ir.tgt, Ir.setAll, Bool.false_eq_true, List.set_nil, List.getElem?_cons_zero, List.getElem?_cons_succ, List.set_cons_zero, List.set_cons_succ, List.map_cons, List.map_nil, List.length_cons, List.length_nil, List.replicate_succ, List.replicate_zero, List.cons_append, List.nil_append, Option.map_some, Option.bind_some, Ir.app_get, Ir.app_get0, Ir.app_set, Ir.app_set0, Ir.app_take, Ir.app_one, Ir.len_app, Nat.reduceAdd, Nat.reduceSub, Nat.reduceLeDiff, if_true, if_false, wipeD]
    · exact fun _ => rfl) zs.length 0 [] (by rw [List.length_map]; omega)]
  rw [List.drop_zero, List.nil_append, List.filterMap_map]
  congr 1
  clear hl e0
  induction zs with
  | nil => rfl
  | cons z zs ih =>
    by_cases h : z ∈ ws
    · rw [List.filter_cons_of_pos (by simpa using h), List.map_cons, ← ih]
      simp [h]
    · rw [List.filter_cons_of_neg (by simpa using h), ← ih]
      simp [h]
end Ir.K26
set_option Elab.async false
set_option linter.all false
set_option maxRecDepth 100000
set_option maxHeartbeats 4000001
namespace Ir.K26
open PySem
theorem q0 (k : Nat) : calK fs (k + 1) 0 = callF (calK fs k) ⟨2, 3, b0⟩ := rfl
theorem q1 (k : Nat) : calK fs (k + 1) 1 = callF (calK fs k) ⟨2, 3, b1⟩ := rfl
theorem q3 (k : Nat) : calK fs (k + 1) 3 = callF (calK fs k) ⟨2, 3, b3⟩ := rfl
theorem q4 (k : Nat) : calK fs (k + 1) 4 = callF (calK fs k) ⟨2, 3, b4⟩ := rfl
theorem q5 (k : Nat) : calK fs (k + 1) 5 = callF (calK fs k) ⟨2, 4, b5⟩ := rfl
theorem isi_t (m : Mk) : isiD (.p m.py) .tuple = some (match m with | .tup _ => true | _ => false) := by cases m <;> rfl
theorem isi_s (m : Mk) : isiD (.p m.py) .str = some (match m with | .tup _ => false | _ => true) := by cases m <;> rfl
theorem eqM_any (m : Mk) : eqM m .any = (match m with | .any => true | _ => false) := by cases m <;> rfl
theorem cov_self {B : List Str} {m o : Mk} (h : eqM m o = true) : covM m o = true := by
  cases m <;> cases o <;> first | rfl | (exact absurd h Bool.false_ne_true) | skip
  rename_i zs ws
  have e : zs = ws := of_decide_eq_true h
  subst e
  exact List.all_eq_true.mpr fun z hz => decide_eq_true hz
theorem com_self {B : List Str} {m o : Mk} (hm : m.Ok B) (h : eqM m o = true) : comM m o = m := by
  cases m <;> cases o <;> first | rfl | (exact absurd h Bool.false_ne_true) | skip
  rename_i zs ws
  have e : zs = ws := of_decide_eq_true h
  subst e
  show Mk.tup (zs.filter fun z => decide (z ∈ zs)) = _
  rw [List.filter_eq_self.mpr fun z hz => decide_eq_true hz]
/-- how long marks may be -/
def Mk.Sh : Mk → Prop
  | .tup zs => zs.length ≤ 1000
  | _ => True
theorem allb (f : Str → Bool) (zs : List Str) : (zs.map f).all id = zs.all f := by rw [List.all_map]; rfl
theorem covers_ok {B : List Str} (k : Nat) {m o : Mk} (hm : m.Ok B) (ho : o.Ok B) (sh : m.Sh) (S : Sto) : calK fs (k + 1) 0 [.p m.py, .p o.py] S = .val (.p (.bool (covM m o))) S := by
  rw [q0, callA S rfl]
  unfold b0
  have e1 : cop S .eq (.p m.py) (.p (.str "any")) = some (eqM m .any) := eq_py hm (b := .any) True.intro
  have e2 : cop S .eq (.p m.py) (.p o.py) = some (eqM m o) := eq_py hm ho
  have i1 := isi_t m
  have i2 := isi_t o
  have tk : S.take S.length = S := List.take_length
  cases m with
  | any =>
    have e1 : cop S .eq (.p (Mk.any).py) (.p (.str "any")) = some true := e1
    simp -dsimp only [Ir.then_val, Ir.optA_some, Ir.boolA_t, Ir.boolA_f, Ir.seqA_next, Ir.seqA_ret, Ir.wp_val_, Ir.v_var, Ir.v_cst, Ir.v_bin, Ir.v_cmp, Ir.v_chain, Ir.v_and, Ir.v_or, Ir.v_not, Ir.v_ifx, Ir.v_neg, Ir.v_call, Ir.v_tup, Ir.v_lst, Ir.v_idx, Ir.v_idxL, Ir.v_slice, Ir.v_strOf, Ir.v_join, Ir.v_extend, Ir.v_append, Ir.v_len, Ir.v_isi, Ir.v_toInt, Ir.v_all, Ir.v_tupOf, Ir.v_dictOf, Ir.v_dlit, Ir.v_dget3, Ir.v_eqL, Ir.v_op1, Ir.v_op2, Ir.v_fstr, Ir.f_nil, Ir.f_cons, Ir.a_nil', Ir.a_cons', Ir.a_star', Ir.l_disp', Ir.l_of', Ir.l_cat', Ir.l_cut', Ir.b_no', Ir.b_at', Ir.i_tup', Ir.i_lst', Ir.i_str', Ir.i_rng', Ir.ss_nil', Ir.ss_asg, Ir.ss_expr, Ir.ss_ret, Ir.ss_unp, Ir.ss_ite, Ir.ss_setI, Ir.ss_for, Ir.finA_p, Ir.strD_str, Ir.ofD_tup, Ir.dicAt_eq, Ir.lstAt_eq, Ir.dget3_str, Ir.dixD_int, Ir.srcLst_eq, Ir.ofD_ref, Ir.tupD_ref, Ir.lenD_ref, Ir.lenD_tup, Ir.getI_ref, Ir.lsA_lst, Ir.ifA_t, Ir.appD_eq, Ir.extD_eq, Ir.catD_eq, Ir.rb_p, decide_true, decide_false, Bool.true_and, Bool.and_true, Ir.atA_no, Ir.atA_go, Ir.contA_next, Ir.contA_ret, Ir.size_fix, Ir.size_dyn, Ir.at_fix, Ir.at_dyn, Ir.turn_one, List.length_map, List.getElem?_nil, Ir.tgt, Ir.setAll, Bool.false_eq_true, List.set_nil, List.getElem?_cons_zero, List.getElem?_cons_succ, List.set_cons_zero, List.set_cons_succ, List.map_cons, List.map_nil, List.length_cons, List.length_nil, List.replicate_succ, List.replicate_zero, List.cons_append, List.nil_append, Option.map_some, Option.bind_some, Ir.app_get, Ir.app_get0, Ir.app_set, Ir.app_set0, Ir.app_take, Ir.app_one, Ir.len_app, Nat.reduceAdd, Nat.reduceSub, Nat.reduceLeDiff, if_true, if_false, e1]
    simp -dsimp only [Ir.then_val, Ir.optA_some, Ir.boolA_t, Ir.boolA_f, Ir.seqA_next, Ir.seqA_ret, Ir.wp_val_, Ir.v_var, Ir.v_cst, Ir.v_bin, Ir.v_cmp, Ir.v_chain, Ir.v_and, Ir.v_or, Ir.v_not, Ir.v_ifx, Ir.v_neg, Ir.v_call, Ir.v_tup, Ir.v_lst, Ir.v_idx, Ir.v_idxL, Ir.v_slice, Ir.v_strOf, Ir.v_join, Ir.v_extend, Ir.v_append, Ir.v_len, Ir.v_isi, Ir.v_toInt, Ir.v_all, Ir.v_tupOf, Ir.v_dictOf, Ir.v_dlit, Ir.v_dget3, Ir.v_eqL, Ir.v_op1, Ir.v_op2, Ir.v_fstr, Ir.f_nil, Ir.f_cons, Ir.a_nil', Ir.a_cons', Ir.a_star', Ir.l_disp', Ir.l_of', Ir.l_cat', Ir.l_cut', Ir.b_no', Ir.b_at', Ir.i_tup', Ir.i_lst', Ir.i_str', Ir.i_rng', Ir.ss_nil', Ir.ss_asg, Ir.ss_expr, Ir.ss_ret, Ir.ss_unp, Ir.ss_ite, Ir.ss_setI, Ir.ss_for, Ir.finA_p, Ir.strD_str, Ir.ofD_tup, Ir.dicAt_eq, Ir.lstAt_eq, Ir.dget3_str, Ir.dixD_int, Ir.srcLst_eq, Ir.ofD_ref, Ir.tupD_ref, Ir.lenD_ref, Ir.lenD_tup, Ir.getI_ref, Ir.lsA_lst, Ir.ifA_t, Ir.appD_eq, Ir.extD_eq, Ir.catD_eq, Ir.rb_p, decide_true, decide_false, Bool.true_and, Bool.and_true, Ir.atA_no, Ir.atA_go, Ir.contA_next, Ir.contA_ret, Ir.size_fix, Ir.size_dyn, Ir.at_fix, Ir.at_dyn, Ir.turn_one, List.length_map, List.getElem?_nil, Ir.tgt, Ir.setAll, Bool.false_eq_true, List.set_nil, List.getElem?_cons_zero, List.getElem?_cons_succ, List.set_cons_zero, List.set_cons_succ, List.map_cons, List.map_nil, List.length_cons, List.length_nil, List.replicate_succ, List.replicate_zero, List.cons_append, List.nil_append, Option.map_some, Option.bind_some, Ir.app_get, Ir.app_get0, Ir.app_set, Ir.app_set0, Ir.app_take, Ir.app_one, Ir.len_app, Nat.reduceAdd, Nat.reduceSub, Nat.reduceLeDiff, if_true, if_false, tk]
    cases o <;> rfl
  | num =>
    have e1 : cop S .eq (.p (Mk.num).py) (.p (.str "any")) = some false := e1
    have i1 : isiD (.p (Mk.num).py) .tuple = some false := i1
    cases o with
    | num =>
      have e2 : cop S .eq (.p (Mk.num).py) (.p (Mk.num).py) = some true := e2
      simp -dsimp only [Ir.then_val, Ir.optA_some, Ir.boolA_t, Ir.boolA_f, Ir.seqA_next, Ir.seqA_ret, Ir.wp_val_, Ir.v_var, Ir.v_cst, Ir.v_bin, Ir.v_cmp, Ir.v_chain, Ir.v_and, Ir.v_or, Ir.v_not, Ir.v_ifx, Ir.v_neg, Ir.v_call, Ir.v_tup, Ir.v_lst, Ir.v_idx, Ir.v_idxL, Ir.v_slice, Ir.v_strOf, Ir.v_join, Ir.v_extend, Ir.v_append, Ir.v_len, Ir.v_isi, Ir.v_toInt, Ir.v_all, Ir.v_tupOf, Ir.v_dictOf, Ir.v_dlit, Ir.v_dget3, Ir.v_eqL, Ir.v_op1, Ir.v_op2, Ir.v_fstr, Ir.f_nil, Ir.f_cons, Ir.a_nil', Ir.a_cons', Ir.a_star', Ir.l_disp', Ir.l_of', Ir.l_cat', Ir.l_cut', Ir.b_no', Ir.b_at', Ir.i_tup', Ir.i_lst', Ir.i_str', Ir.i_rng', Ir.ss_nil', Ir.ss_asg, Ir.ss_expr, Ir.ss_ret, Ir.ss_unp, Ir.ss_ite, Ir.ss_setI, Ir.ss_for, Ir.finA_p, Ir.strD_str, Ir.ofD_tup, Ir.dicAt_eq, Ir.lstAt_eq, Ir.dget3_str, Ir.dixD_int, Ir.srcLst_eq, Ir.ofD_ref, Ir.tupD_ref, Ir.lenD_ref, Ir.lenD_tup, Ir.getI_ref, Ir.lsA_lst, Ir.ifA_t, Ir.appD_eq, Ir.extD_eq, Ir.catD_eq, Ir.rb_p, decide_true, decide_false, Bool.true_and, Bool.and_true, Ir.atA_no, Ir.atA_go, Ir.contA_next, Ir.contA_ret, Ir.size_fix, Ir.size_dyn, Ir.at_fix, Ir.at_dyn, Ir.turn_one, List.length_map, List.getElem?_nil, Ir.tgt, Ir.setAll, Bool.false_eq_true, List.set_nil, List.getElem?_cons_zero, List.getElem?_cons_succ, List.set_cons_zero, List.set_cons_succ, List.map_cons, List.map_nil, List.length_cons, List.length_nil, List.replicate_succ, List.replicate_zero, List.cons_append, List.nil_append, Option.map_some, Option.bind_some, Ir.app_get, Ir.app_get0, Ir.app_set, Ir.app_set0, Ir.app_take, Ir.app_one, Ir.len_app, Nat.reduceAdd, Nat.reduceSub, Nat.reduceLeDiff, if_true, if_false, e1, e2]
      simp -dsimp only [Ir.then_val, Ir.optA_some, Ir.boolA_t, Ir.boolA_f, Ir.seqA_next, Ir.seqA_ret, Ir.wp_val_, Ir.v_var, Ir.v_cst, Ir.v_bin, Ir.v_cmp, Ir.v_chain, Ir.v_and, Ir.v_or, Ir.v_not, Ir.v_ifx, Ir.v_neg, Ir.v_call, Ir.v_tup, Ir.v_lst, Ir.v_idx, Ir.v_idxL, Ir.v_slice, Ir.v_strOf, Ir.v_join, Ir.v_extend, Ir.v_append, Ir.v_len, Ir.v_isi, Ir.v_toInt, Ir.v_all, Ir.v_tupOf, Ir.v_dictOf, Ir.v_dlit, Ir.v_dget3, Ir.v_eqL, Ir.v_op1, Ir.v_op2, Ir.v_fstr, Ir.f_nil, Ir.f_cons, Ir.a_nil', Ir.a_cons', Ir.a_star', Ir.l_disp', Ir.l_of', Ir.l_cat', Ir.l_cut', Ir.b_no', Ir.b_at', Ir.i_tup', Ir.i_lst', Ir.i_str', Ir.i_rng', Ir.ss_nil', Ir.ss_asg, Ir.ss_expr, Ir.ss_ret, Ir.ss_unp, Ir.ss_ite, Ir.ss_setI, Ir.ss_for, Ir.finA_p, Ir.strD_str, Ir.ofD_tup, Ir.dicAt_eq, Ir.lstAt_eq, Ir.dget3_str, Ir.dixD_int, Ir.srcLst_eq, Ir.ofD_ref, Ir.tupD_ref, Ir.lenD_ref, Ir.lenD_tup, Ir.getI_ref, Ir.lsA_lst, Ir.ifA_t, Ir.appD_eq, Ir.extD_eq, Ir.catD_eq, Ir.rb_p, decide_true, decide_false, Bool.true_and, Bool.and_true, Ir.atA_no, Ir.atA_go, Ir.contA_next, Ir.contA_ret, Ir.size_fix, Ir.size_dyn, Ir.at_fix, Ir.at_dyn, Ir.turn_one, List.length_map, List.getElem?_nil, Ir.tgt, Ir.setAll, Bool.false_eq_true, List.set_nil, List.getElem?_cons_zero, List.getElem?_cons_succ, List.set_cons_zero, List.set_cons_succ, List.map_cons, List.map_nil, List.length_cons, List.length_nil, List.replicate_succ, List.replicate_zero, List.cons_append, List.nil_append, Option.map_some, Option.bind_some, Ir.app_get, Ir.app_get0, Ir.app_set, Ir.app_set0, Ir.app_take, Ir.app_one, Ir.len_app, Nat.reduceAdd, Nat.reduceSub, Nat.reduceLeDiff, if_true, if_false, tk]
      rfl
    | any =>
      have e2 : cop S .eq (.p (Mk.num).py) (.p (Mk.any).py) = some false := e2
      simp -dsimp only [Ir.then_val, Ir.optA_some, Ir.boolA_t, Ir.boolA_f, Ir.seqA_next, Ir.seqA_ret, Ir.wp_val_, Ir.v_var, Ir.v_cst, Ir.v_bin, Ir.v_cmp, Ir.v_chain, Ir.v_and, Ir.v_or, Ir.v_not, Ir.v_ifx, Ir.v_neg, Ir.v_call, Ir.v_tup, Ir.v_lst, Ir.v_idx, Ir.v_idxL, Ir.v_slice, Ir.v_strOf, Ir.v_join, Ir.v_extend, Ir.v_append, Ir.v_len, Ir.v_isi, Ir.v_toInt, Ir.v_all, Ir.v_tupOf, Ir.v_dictOf, Ir.v_dlit, Ir.v_dget3, Ir.v_eqL, Ir.v_op1, Ir.v_op2, Ir.v_fstr, Ir.f_nil, Ir.f_cons, Ir.a_nil', Ir.a_cons', Ir.a_star', Ir.l_disp', Ir.l_of', Ir.l_cat', Ir.l_cut', Ir.b_no', Ir.b_at', Ir.i_tup', Ir.i_lst', Ir.i_str', Ir.i_rng', Ir.ss_nil', Ir.ss_asg, Ir.ss_expr, Ir.ss_ret, Ir.ss_unp, Ir.ss_ite, Ir.ss_setI, Ir.ss_for, Ir.finA_p, Ir.strD_str, Ir.ofD_tup, Ir.dicAt_eq, Ir.lstAt_eq, Ir.dget3_str, Ir.dixD_int, Ir.srcLst_eq, Ir.ofD_ref, Ir.tupD_ref, Ir.lenD_ref, Ir.lenD_tup, Ir.getI_ref, Ir.lsA_lst, Ir.ifA_t, Ir.appD_eq, Ir.extD_eq, Ir.catD_eq, Ir.rb_p, decide_true, decide_false, Bool.true_and, Bool.and_true, Ir.atA_no, Ir.atA_go, Ir.contA_next, Ir.contA_ret, Ir.size_fix, Ir.size_dyn, Ir.at_fix, Ir.at_dyn, Ir.turn_one, List.length_map, List.getElem?_nil, Ir.tgt, Ir.setAll, Bool.false_eq_true, List.set_nil, List.getElem?_cons_zero, List.getElem?_cons_succ, List.set_cons_zero, List.set_cons_succ, List.map_cons, List.map_nil, List.length_cons, List.length_nil, List.replicate_succ, List.replicate_zero, List.cons_append, List.nil_append, Option.map_some, Option.bind_some, Ir.app_get, Ir.app_get0, Ir.app_set, Ir.app_set0, Ir.app_take, Ir.app_one, Ir.len_app, Nat.reduceAdd, Nat.reduceSub, Nat.reduceLeDiff, if_true, if_false, e1, e2, i1]
      simp -dsimp only [Ir.then_val, Ir.optA_some, Ir.boolA_t, Ir.boolA_f, Ir.seqA_next, Ir.seqA_ret, Ir.wp_val_, Ir.v_var, Ir.v_cst, Ir.v_bin, Ir.v_cmp, Ir.v_chain, Ir.v_and, Ir.v_or, Ir.v_not, Ir.v_ifx, Ir.v_neg, Ir.v_call, Ir.v_tup, Ir.v_lst, Ir.v_idx, Ir.v_idxL, Ir.v_slice, Ir.v_strOf, Ir.v_join, Ir.v_extend, Ir.v_append, Ir.v_len, Ir.v_isi, Ir.v_toInt, Ir.v_all, Ir.v_tupOf, Ir.v_dictOf, Ir.v_dlit, Ir.v_dget3, Ir.v_eqL, Ir.v_op1, Ir.v_op2, Ir.v_fstr, Ir.f_nil, Ir.f_cons, Ir.a_nil', Ir.a_cons', Ir.a_star', Ir.l_disp', Ir.l_of', Ir.l_cat', Ir.l_cut', Ir.b_no', Ir.b_at', Ir.i_tup', Ir.i_lst', Ir.i_str', Ir.i_rng', Ir.ss_nil', Ir.ss_asg, Ir.ss_expr, Ir.ss_ret, Ir.ss_unp, Ir.ss_ite, Ir.ss_setI, Ir.ss_for, Ir.finA_p, Ir.strD_str, Ir.ofD_tup, Ir.dicAt_eq, Ir.lstAt_eq, Ir.dget3_str, Ir.dixD_int, Ir.srcLst_eq, Ir.ofD_ref, Ir.tupD_ref, Ir.lenD_ref, Ir.lenD_tup, Ir.getI_ref, Ir.lsA_lst, Ir.ifA_t, Ir.appD_eq, Ir.extD_eq, Ir.catD_eq, Ir.rb_p, decide_true, decide_false, Bool.true_and, Bool.and_true, Ir.atA_no, Ir.atA_go, Ir.contA_next, Ir.contA_ret, Ir.size_fix, Ir.size_dyn, Ir.at_fix, Ir.at_dyn, Ir.turn_one, List.length_map, List.getElem?_nil, Ir.tgt, Ir.setAll, Bool.false_eq_true, List.set_nil, List.getElem?_cons_zero, List.getElem?_cons_succ, List.set_cons_zero, List.set_cons_succ, List.map_cons, List.map_nil, List.length_cons, List.length_nil, List.replicate_succ, List.replicate_zero, List.cons_append, List.nil_append, Option.map_some, Option.bind_some, Ir.app_get, Ir.app_get0, Ir.app_set, Ir.app_set0, Ir.app_take, Ir.app_one, Ir.len_app, Nat.reduceAdd, Nat.reduceSub, Nat.reduceLeDiff, if_true, if_false, tk]
      rfl
    | tup ws =>
      have e2 : cop S .eq (.p (Mk.num).py) (.p (Mk.tup ws).py) = some false := e2
      simp -dsimp only [Ir.then_val, Ir.optA_some, Ir.boolA_t, Ir.boolA_f, Ir.seqA_next, Ir.seqA_ret, Ir.wp_val_, Ir.v_var, Ir.v_cst, Ir.v_bin, Ir.v_cmp, Ir.v_chain, Ir.v_and, Ir.v_or, Ir.v_not, Ir.v_ifx, Ir.v_neg, Ir.v_call, Ir.v_tup, Ir.v_lst, Ir.v_idx, Ir.v_idxL, Ir.v_slice, Ir.v_strOf, Ir.v_join, Ir.v_extend, Ir.v_append, Ir.v_len, Ir.v_isi, Ir.v_toInt, Ir.v_all, Ir.v_tupOf, Ir.v_dictOf, Ir.v_dlit, Ir.v_dget3, Ir.v_eqL, Ir.v_op1, Ir.v_op2, Ir.v_fstr, Ir.f_nil, Ir.f_cons, Ir.a_nil', Ir.a_cons', Ir.a_star', Ir.l_disp', Ir.l_of', Ir.l_cat', Ir.l_cut', Ir.b_no', Ir.b_at', Ir.i_tup', Ir.i_lst', Ir.i_str', Ir.i_rng', Ir.ss_nil', Ir.ss_asg, Ir.ss_expr, Ir.ss_ret, Ir.ss_unp, Ir.ss_ite, Ir.ss_setI, Ir.ss_for, Ir.finA_p, Ir.strD_str, Ir.ofD_tup, Ir.dicAt_eq, Ir.lstAt_eq, Ir.dget3_str, Ir.dixD_int, Ir.srcLst_eq, Ir.ofD_ref, Ir.tupD_ref, Ir.lenD_ref, Ir.lenD_tup, Ir.getI_ref, Ir.lsA_lst, Ir.ifA_t, Ir.appD_eq, Ir.extD_eq, Ir.catD_eq, Ir.rb_p, decide_true, decide_false, Bool.true_and, Bool.and_true, Ir.atA_no, Ir.atA_go, Ir.contA_next, Ir.contA_ret, Ir.size_fix, Ir.size_dyn, Ir.at_fix, Ir.at_dyn, Ir.turn_one, List.length_map, List.getElem?_nil, Ir.tgt, Ir.setAll, Bool.false_eq_true, List.set_nil, List.getElem?_cons_zero, List.getElem?_cons_succ, List.set_cons_zero, List.set_cons_succ, List.map_cons, List.map_nil, List.length_cons, List.length_nil, List.replicate_succ, List.replicate_zero, List.cons_append, List.nil_append, Option.map_some, Option.bind_some, Ir.app_get, Ir.app_get0, Ir.app_set, Ir.app_set0, Ir.app_take, Ir.app_one, Ir.len_app, Nat.reduceAdd, Nat.reduceSub, Nat.reduceLeDiff, if_true, if_false, e1, e2, i1]
      simp -dsimp only [Ir.then_val, Ir.optA_some, Ir.boolA_t, Ir.boolA_f, Ir.seqA_next, Ir.seqA_ret, Ir.wp_val_, Ir.v_var, Ir.v_cst, Ir.v_bin, Ir.v_cmp, Ir.v_chain, Ir.v_and, Ir.v_or, Ir.v_not, Ir.v_ifx, Ir.v_neg, Ir.v_call, Ir.v_tup, Ir.v_lst, Ir.v_idx, Ir.v_idxL, Ir.v_slice, Ir.v_strOf, Ir.v_join, Ir.v_extend, Ir.v_append, Ir.v_len, Ir.v_isi, Ir.v_toInt, Ir.v_all, Ir.v_tupOf, Ir.v_dictOf, Ir.v_dlit, Ir.v_dget3, Ir.v_eqL, Ir.v_op1, Ir.v_op2, Ir.v_fstr, Ir.f_nil, Ir.f_cons, Ir.a_nil', Ir.a_cons', Ir.a_star', Ir.l_disp', Ir.l_of', Ir.l_cat', Ir.l_cut', Ir.b_no', Ir.b_at', Ir.i_tup', Ir.i_lst', Ir.i_str', Ir.i_rng', Ir.ss_nil', Ir.ss_asg, Ir.ss_expr, Ir.ss_ret, Ir.ss_unp, Ir.ss_ite, Ir.ss_setI, Ir.ss_for, Ir.finA_p, Ir.strD_str, Ir.ofD_tup, Ir.dicAt_eq, Ir.lstAt_eq, Ir.dget3_str, Ir.dixD_int, Ir.srcLst_eq, Ir.ofD_ref, Ir.tupD_ref, Ir.lenD_ref, Ir.lenD_tup, Ir.getI_ref, Ir.lsA_lst, Ir.ifA_t, Ir.appD_eq, Ir.extD_eq, Ir.catD_eq, Ir.rb_p, decide_true, decide_false, Bool.true_and, Bool.and_true, Ir.atA_no, Ir.atA_go, Ir.contA_next, Ir.contA_ret, Ir.size_fix, Ir.size_dyn, Ir.at_fix, Ir.at_dyn, Ir.turn_one, List.length_map, List.getElem?_nil, Ir.tgt, Ir.setAll, Bool.false_eq_true, List.set_nil, List.getElem?_cons_zero, List.getElem?_cons_succ, List.set_cons_zero, List.set_cons_succ, List.map_cons, List.map_nil, List.length_cons, List.length_nil, List.replicate_succ, List.replicate_zero, List.cons_append, List.nil_append, Option.map_some, Option.bind_some, Ir.app_get, Ir.app_get0, Ir.app_set, Ir.app_set0, Ir.app_take, Ir.app_one, Ir.len_app, Nat.reduceAdd, Nat.reduceSub, Nat.reduceLeDiff, if_true, if_false, tk]
      rfl
  | tup zs =>
    have e1 : cop S .eq (.p (Mk.tup zs).py) (.p (.str "any")) = some false := e1
    have i1 : isiD (.p (Mk.tup zs).py) .tuple = some true := i1
    cases o with
    | num =>
      have e2 : cop S .eq (.p (Mk.tup zs).py) (.p (Mk.num).py) = some false := e2
      have i2 : isiD (.p (Mk.num).py) .tuple = some false := i2
      simp -dsimp only [Ir.then_val, Ir.optA_some, Ir.boolA_t, Ir.boolA_f, Ir.seqA_next, Ir.seqA_ret, Ir.wp_val_, Ir.v_var, Ir.v_cst, Ir.v_bin, Ir.v_cmp, Ir.v_chain, Ir.v_and, Ir.v_or, Ir.v_not, Ir.v_ifx, Ir.v_neg, Ir.v_call, Ir.v_tup, Ir.v_lst, Ir.v_idx, Ir.v_idxL, Ir.v_slice, Ir.v_strOf, Ir.v_join, Ir.v_extend, Ir.v_append, Ir.v_len, Ir.v_isi, Ir.v_toInt, Ir.v_all, Ir.v_tupOf, Ir.v_dictOf, Ir.v_dlit, Ir.v_dget3, Ir.v_eqL, Ir.v_op1, Ir.v_op2, Ir.v_fstr, Ir.f_nil, Ir.f_cons, Ir.a_nil', Ir.a_cons', Ir.a_star', Ir.l_disp', Ir.l_of', Ir.l_cat', Ir.l_cut', Ir.b_no', Ir.b_at', Ir.i_tup', Ir.i_lst', Ir.i_str', Ir.i_rng', Ir.ss_nil', Ir.ss_asg, Ir.ss_expr, Ir.ss_ret, Ir.ss_unp, Ir.ss_ite, Ir.ss_setI, Ir.ss_for, Ir.finA_p, Ir.strD_str, Ir.ofD_tup, Ir.dicAt_eq, Ir.lstAt_eq, Ir.dget3_str, Ir.dixD_int, Ir.srcLst_eq, Ir.ofD_ref, Ir.tupD_ref, Ir.lenD_ref, Ir.lenD_tup, Ir.getI_ref, Ir.lsA_lst, Ir.ifA_t, Ir.appD_eq, Ir.extD_eq, Ir.catD_eq, Ir.rb_p, decide_true, decide_false, Bool.true_and, Bool.and_true, Ir.atA_no, Ir.atA_go, Ir.contA_next, Ir.contA_ret, Ir.size_fix, Ir.size_dyn, Ir.at_fix, Ir.at_dyn, Ir.turn_one, List.length_map, List.getElem?_nil, Ir.tgt, Ir.setAll, Bool.false_eq_true, List.set_nil, List.getElem?_cons_zero, List.getElem?_cons_succ, List.set_cons_zero, List.set_cons_succ, List.map_cons, List.map_nil, List.length_cons, List.length_nil, List.replicate_succ, List.replicate_zero, List.cons_append, List.nil_append, Option.map_some, Option.bind_some, Ir.app_get, Ir.app_get0, Ir.app_set, Ir.app_set0, Ir.app_take, Ir.app_one, Ir.len_app, Nat.reduceAdd, Nat.reduceSub, Nat.reduceLeDiff, if_true, if_false, e1, e2, i1, i2]
      simp -dsimp only [Ir.then_val, Ir.optA_some, Ir.boolA_t, Ir.boolA_f, Ir.seqA_next, Ir.seqA_ret, Ir.wp_val_, Ir.v_var, Ir.v_cst, Ir.v_bin, Ir.v_cmp, Ir.v_chain, Ir.v_and, Ir.v_or, Ir.v_not, Ir.v_ifx, Ir.v_neg, Ir.v_call, Ir.v_tup, Ir.v_lst, Ir.v_idx, Ir.v_idxL, Ir.v_slice, Ir.v_strOf, Ir.v_join, Ir.v_extend, Ir.v_append, Ir.v_len, Ir.v_isi, Ir.v_toInt, Ir.v_all, Ir.v_tupOf, Ir.v_dictOf, Ir.v_dlit, Ir.v_dget3, Ir.v_eqL, Ir.v_op1, Ir.v_op2, Ir.v_fstr, Ir.f_nil, Ir.f_cons, Ir.a_nil', Ir.a_cons', Ir.a_star', Ir.l_disp', Ir.l_of', Ir.l_cat', Ir.l_cut', Ir.b_no', Ir.b_at', Ir.i_tup', Ir.i_lst', Ir.i_str', Ir.i_rng', Ir.ss_nil', Ir.ss_asg, Ir.ss_expr, Ir.ss_ret, Ir.ss_unp, Ir.ss_ite, Ir.ss_setI, Ir.ss_for, Ir.finA_p, Ir.strD_str, Ir.ofD_tup, Ir.dicAt_eq, Ir.lstAt_eq, Ir.dget3_str, Ir.dixD_int, Ir.srcLst_eq, Ir.ofD_ref, Ir.tupD_ref, Ir.lenD_ref, Ir.lenD_tup, Ir.getI_ref, Ir.lsA_lst, Ir.ifA_t, Ir.appD_eq, Ir.extD_eq, Ir.catD_eq, Ir.rb_p, decide_true, decide_false, Bool.true_and, Bool.and_true, Ir.atA_no, Ir.atA_go, Ir.contA_next, Ir.contA_ret, Ir.size_fix, Ir.size_dyn, Ir.at_fix, Ir.at_dyn, Ir.turn_one, List.length_map, List.getElem?_nil, Ir.tgt, Ir.setAll, Bool.false_eq_true, List.set_nil, List.getElem?_cons_zero, List.getElem?_cons_succ, List.set_cons_zero, List.set_cons_succ, List.map_cons, List.map_nil, List.length_cons, List.length_nil, List.replicate_succ, List.replicate_zero, List.cons_append, List.nil_append, Option.map_some, Option.bind_some, Ir.app_get, Ir.app_get0, Ir.app_set, Ir.app_set0, Ir.app_take, Ir.app_one, Ir.len_app, Nat.reduceAdd, Nat.reduceSub, Nat.reduceLeDiff, if_true, if_false, tk]
      rfl
    | any =>
      have e2 : cop S .eq (.p (Mk.tup zs).py) (.p (Mk.any).py) = some false := e2
      have i2 : isiD (.p (Mk.any).py) .tuple = some false := i2
      simp -dsimp only [Ir.then_val, Ir.optA_some, Ir.boolA_t, Ir.boolA_f, Ir.seqA_next, Ir.seqA_ret, Ir.wp_val_, Ir.v_var, Ir.v_cst, Ir.v_bin, Ir.v_cmp, Ir.v_chain, Ir.v_and, Ir.v_or, Ir.v_not, Ir.v_ifx, Ir.v_neg, Ir.v_call, Ir.v_tup, Ir.v_lst, Ir.v_idx, Ir.v_idxL, Ir.v_slice, Ir.v_strOf, Ir.v_join, Ir.v_extend, Ir.v_append, Ir.v_len, Ir.v_isi, Ir.v_toInt, Ir.v_all, Ir.v_tupOf, Ir.v_dictOf, Ir.v_dlit, Ir.v_dget3, Ir.v_eqL, Ir.v_op1, Ir.v_op2, Ir.v_fstr, Ir.f_nil, Ir.f_cons, Ir.a_nil', Ir.a_cons', Ir.a_star', Ir.l_disp', Ir.l_of', Ir.l_cat', Ir.l_cut', Ir.b_no', Ir.b_at', Ir.i_tup', Ir.i_lst', Ir.i_str', Ir.i_rng', Ir.ss_nil', Ir.ss_asg, Ir.ss_expr, Ir.ss_ret, Ir.ss_unp, Ir.ss_ite, Ir.ss_setI, Ir.ss_for, Ir.finA_p, Ir.strD_str, Ir.ofD_tup, Ir.dicAt_eq, Ir.lstAt_eq, Ir.dget3_str, Ir.dixD_int, Ir.srcLst_eq, Ir.ofD_ref, Ir.tupD_ref, Ir.lenD_ref, Ir.lenD_tup, Ir.getI_ref, Ir.lsA_lst, Ir.ifA_t, Ir.appD_eq, Ir.extD_eq, Ir.catD_eq, Ir.rb_p, decide_true, decide_false, Bool.true_and, Bool.and_true, Ir.atA_no, Ir.atA_go, Ir.contA_next, Ir.contA_ret, Ir.size_fix, Ir.size_dyn, Ir.at_fix, Ir.at_dyn, Ir.turn_one, List.length_map, List.getElem?_nil, Ir.tgt, Ir.setAll, Bool.false_eq_true, List.set_nil, List.getElem?_cons_zero, List.getElem?_cons_succ, List.set_cons_zero, List.set_cons_succ, List.map_cons, List.map_nil, List.length_cons, List.length_nil, List.replicate_succ, List.replicate_zero, List.cons_append, List.nil_append, Option.map_some, Option.bind_some, Ir.app_get, Ir.app_get0, Ir.app_set, Ir.app_set0, Ir.app_take, Ir.app_one, Ir.len_app, Nat.reduceAdd, Nat.reduceSub, Nat.reduceLeDiff, if_true, if_false, e1, e2, i1, i2]
      simp -dsimp only [Ir.then_val, Ir.optA_some, Ir.boolA_t, Ir.boolA_f, Ir.seqA_next, Ir.seqA_ret, Ir.wp_val_, Ir.v_var, Ir.v_cst, Ir.v_bin, Ir.v_cmp, Ir.v_chain, Ir.v_and, Ir.v_or, Ir.v_not, Ir.v_ifx, Ir.v_neg, Ir.v_call, Ir.v_tup, Ir.v_lst, Ir.v_idx, Ir.v_idxL, Ir.v_slice, Ir.v_strOf, Ir.v_join, Ir.v_extend, Ir.v_append, Ir.v_len, Ir.v_isi, Ir.v_toInt, Ir.v_all, Ir.v_tupOf, Ir.v_dictOf, Ir.v_dlit, Ir.v_dget3, Ir.v_eqL, Ir.v_op1, Ir.v_op2, Ir.v_fstr, Ir.f_nil, Ir.f_cons, Ir.a_nil', Ir.a_cons', Ir.a_star', Ir.l_disp', Ir.l_of', Ir.l_cat', Ir.l_cut', Ir.b_no', Ir.b_at', Ir.i_tup', Ir.i_lst', Ir.i_str', Ir.i_rng', Ir.ss_nil', Ir.ss_asg, Ir.ss_expr, Ir.ss_ret, Ir.ss_unp, Ir.ss_ite, Ir.ss_setI, Ir.ss_for, Ir.finA_p, Ir.strD_str, Ir.ofD_tup, Ir.dicAt_eq, Ir.lstAt_eq, Ir.dget3_str, Ir.dixD_int, Ir.srcLst_eq, Ir.ofD_ref, Ir.tupD_ref, Ir.lenD_ref, Ir.lenD_tup, Ir.getI_ref, Ir.lsA_lst, Ir.ifA_t, Ir.appD_eq, Ir.extD_eq, Ir.catD_eq, Ir.rb_p, decide_true, decide_false, Bool.true_and, Bool.and_true, Ir.atA_no, Ir.atA_go, Ir.contA_next, Ir.contA_ret, Ir.size_fix, Ir.size_dyn, Ir.at_fix, Ir.at_dyn, Ir.turn_one, List.length_map, List.getElem?_nil, Ir.tgt, Ir.setAll, Bool.false_eq_true, List.set_nil, List.getElem?_cons_zero, List.getElem?_cons_succ, List.set_cons_zero, List.set_cons_succ, List.map_cons, List.map_nil, List.length_cons, List.length_nil, List.replicate_succ, List.replicate_zero, List.cons_append, List.nil_append, Option.map_some, Option.bind_some, Ir.app_get, Ir.app_get0, Ir.app_set, Ir.app_set0, Ir.app_take, Ir.app_one, Ir.len_app, Nat.reduceAdd, Nat.reduceSub, Nat.reduceLeDiff, if_true, if_false, tk]
      rfl
    | tup ws =>
      by_cases h : zs = ws
      · have e2 : cop S .eq (.p (Mk.tup zs).py) (.p (Mk.tup ws).py) = some true := e2.trans (congrArg some (decide_eq_true h))
        have c : covM (.tup zs) (.tup ws) = true := cov_self (B := B) (decide_eq_true h)
        rw [c]
        simp -dsimp only [Ir.then_val, Ir.optA_some, Ir.boolA_t, Ir.boolA_f, Ir.seqA_next, Ir.seqA_ret, Ir.wp_val_, Ir.v_var, Ir.v_cst, Ir.v_bin, Ir.v_cmp, Ir.v_chain, Ir.v_and, Ir.v_or, Ir.v_not, Ir.v_ifx, Ir.v_neg, Ir.v_call, Ir.v_tup, Ir.v_lst, Ir.v_idx, Ir.v_idxL, Ir.v_slice, Ir.v_strOf, Ir.v_join, Ir.v_extend, Ir.v_append, Ir.v_len, Ir.v_isi, Ir.v_toInt, Ir.v_all, Ir.v_tupOf, Ir.v_dictOf, Ir.v_dlit, Ir.v_dget3, Ir.v_eqL, Ir.v_op1, Ir.v_op2, Ir.v_fstr, Ir.f_nil, Ir.f_cons, Ir.a_nil', Ir.a_cons', Ir.a_star', Ir.l_disp', Ir.l_of', Ir.l_cat', Ir.l_cut', Ir.b_no', Ir.b_at', Ir.i_tup', Ir.i_lst', Ir.i_str', Ir.i_rng', Ir.ss_nil', Ir.ss_asg, Ir.ss_expr, Ir.ss_ret, Ir.ss_unp, Ir.ss_ite, Ir.ss_setI, Ir.ss_for, Ir.finA_p, Ir.strD_str, Ir.ofD_tup, Ir.dicAt_eq, Ir.lstAt_eq, Ir.dget3_str, Ir.dixD_int, Ir.srcLst_eq, Ir.ofD_ref, Ir.tupD_ref, Ir.lenD_ref, Ir.lenD_tup, Ir.getI_ref, Ir.lsA_lst, Ir.ifA_t, Ir.appD_eq, Ir.extD_eq, Ir.catD_eq, Ir.rb_p, decide_true, decide_false, Bool.true_and, Bool.and_true, Ir.atA_no, Ir.atA_go, Ir.contA_next, Ir.contA_ret, Ir.size_fix, Ir.size_dyn, Ir.at_fix, Ir.at_dyn, Ir.turn_one, List.length_map, List.getElem?_nil, Ir.tgt, Ir.setAll, Bool.false_eq_true, List.set_nil, List.getElem?_cons_zero, List.getElem?_cons_succ, List.set_cons_zero, List.set_cons_succ, List.map_cons, List.map_nil, List.length_cons, List.length_nil, List.replicate_succ, List.replicate_zero, List.cons_append, List.nil_append, Option.map_some, Option.bind_some, Ir.app_get, Ir.app_get0, Ir.app_set, Ir.app_set0, Ir.app_take, Ir.app_one, Ir.len_app, Nat.reduceAdd, Nat.reduceSub, Nat.reduceLeDiff, if_true, if_false, e1, e2]
        simp -dsimp only [Ir.then_val, Ir.optA_some, Ir.boolA_t, Ir.boolA_f, Ir.seqA_next, Ir.seqA_ret, Ir.wp_val_, Ir.v_var, Ir.v_cst, Ir.v_bin, Ir.v_cmp, Ir.v_chain, Ir.v_and, Ir.v_or, Ir.v_not, Ir.v_ifx, Ir.v_neg, Ir.v_call, Ir.v_tup, Ir.v_lst, Ir.v_idx, Ir.v_idxL, Ir.v_slice, Ir.v_strOf, Ir.v_join, Ir.v_extend, Ir.v_append, Ir.v_len, Ir.v_isi, Ir.v_toInt, Ir.v_all, Ir.v_tupOf, Ir.v_dictOf, Ir.v_dlit, Ir.v_dget3, Ir.v_eqL, Ir.v_op1, Ir.v_op2, Ir.v_fstr, Ir.f_nil, Ir.f_cons, Ir.a_nil', Ir.a_cons', Ir.a_star', Ir.l_disp', Ir.l_of', Ir.l_cat', Ir.l_cut', Ir.b_no', Ir.b_at', Ir.i_tup', Ir.i_lst', Ir.i_str', Ir.i_rng', Ir.ss_nil', Ir.ss_asg, Ir.ss_expr, Ir.ss_ret, Ir.ss_unp, Ir.ss_ite, Ir.ss_setI, Ir.ss_for, Ir.finA_p, Ir.strD_str, Ir.ofD_tup, Ir.dicAt_eq, Ir.lstAt_eq, Ir.dget3_str, Ir.dixD_int, Ir.srcLst_eq, Ir.ofD_ref, Ir.tupD_ref, Ir.lenD_ref, Ir.lenD_tup, Ir.getI_ref, Ir.lsA_lst, Ir.ifA_t, Ir.appD_eq, Ir.extD_eq, Ir.catD_eq, Ir.rb_p, decide_true, decide_false, Bool.true_and, Bool.and_true, Ir.atA_no, Ir.atA_go, Ir.contA_next, Ir.contA_ret, Ir.size_fix, Ir.size_dyn, Ir.at_fix, Ir.at_dyn, Ir.turn_one, List.length_map, List.getElem?_nil, Ir.tgt, Ir.setAll, Bool.false_eq_true, List.set_nil, List.getElem?_cons_zero, List.getElem?_cons_succ, List.set_cons_zero, List.set_cons_succ, List.map_cons, List.map_nil, List.length_cons, List.length_nil, List.replicate_succ, List.replicate_zero, List.cons_append, List.nil_append, Option.map_some, Option.bind_some, Ir.app_get, Ir.app_get0, Ir.app_set, Ir.app_set0, Ir.app_take, Ir.app_one, Ir.len_app, Nat.reduceAdd, Nat.reduceSub, Nat.reduceLeDiff, if_true, if_false, tk]
      · have e2 : cop S .eq (.p (Mk.tup zs).py) (.p (Mk.tup ws).py) = some false := e2.trans (congrArg some (decide_eq_false h))
        have i2 : isiD (.p (Mk.tup ws).py) .tuple = some true := i2
        have lc := all_lc (calK fs k) zs ws S (Nat.le_trans sh (by omega))
        have lc : evL (calK fs k) (.lc (.tup (.var 0)) [2] true (.cmp .in_ (.var 2) (.var 1))) [some (.p (Mk.tup zs).py), some (.p (Mk.tup ws).py), none] S = _ := lc
        have bs := bools_all (fun z => decide (z ∈ ws)) zs
        simp -dsimp only [Ir.then_val, Ir.optA_some, Ir.boolA_t, Ir.boolA_f, Ir.seqA_next, Ir.seqA_ret, Ir.wp_val_, Ir.v_var, Ir.v_cst, Ir.v_bin, Ir.v_cmp, Ir.v_chain, Ir.v_and, Ir.v_or, Ir.v_not, Ir.v_ifx, Ir.v_neg, Ir.v_call, Ir.v_tup, Ir.v_lst, Ir.v_idx, Ir.v_idxL, Ir.v_slice, Ir.v_strOf, Ir.v_join, Ir.v_extend, Ir.v_append, Ir.v_len, Ir.v_isi, Ir.v_toInt, Ir.v_all, Ir.v_tupOf, Ir.v_dictOf, Ir.v_dlit, Ir.v_dget3, Ir.v_eqL, Ir.v_op1, Ir.v_op2, Ir.v_fstr, Ir.f_nil, Ir.f_cons, Ir.a_nil', Ir.a_cons', Ir.a_star', Ir.l_disp', Ir.l_of', Ir.l_cat', Ir.l_cut', Ir.b_no', Ir.b_at', Ir.i_tup', Ir.i_lst', Ir.i_str', Ir.i_rng', Ir.ss_nil', Ir.ss_asg, Ir.ss_expr, Ir.ss_ret, Ir.ss_unp, Ir.ss_ite, Ir.ss_setI, Ir.ss_for, Ir.finA_p, Ir.strD_str, Ir.ofD_tup, Ir.dicAt_eq, Ir.lstAt_eq, Ir.dget3_str, Ir.dixD_int, Ir.srcLst_eq, Ir.ofD_ref, Ir.tupD_ref, Ir.lenD_ref, Ir.lenD_tup, Ir.getI_ref, Ir.lsA_lst, Ir.ifA_t, Ir.appD_eq, Ir.extD_eq, Ir.catD_eq, Ir.rb_p, decide_true, decide_false, Bool.true_and, Bool.and_true, Ir.atA_no, Ir.atA_go, Ir.contA_next, Ir.contA_ret, Ir.size_fix, Ir.size_dyn, Ir.at_fix, Ir.at_dyn, Ir.turn_one, List.length_map, List.getElem?_nil, Ir.tgt, Ir.setAll, Bool.false_eq_true, List.set_nil, List.getElem?_cons_zero, List.getElem?_cons_succ, List.set_cons_zero, List.set_cons_succ, List.map_cons, List.map_nil, List.length_cons, List.length_nil, List.replicate_succ, List.replicate_zero, List.cons_append, List.nil_append, Option.map_some, Option.bind_some, Ir.app_get, Ir.app_get0, Ir.app_set, Ir.app_set0, Ir.app_take, Ir.app_one, Ir.len_app, Nat.reduceAdd, Nat.reduceSub, Nat.reduceLeDiff, if_true, if_false, e1, e2, i1, i2, lc, bs, allb]
        simp -dsimp only [Ir.then_val, Ir.optA_some, Ir.boolA_t, Ir.boolA_f, Ir.seqA_next, Ir.seqA_ret, Ir.wp_val_, Ir.v_var, Ir.v_cst, Ir.v_bin, Ir.v_cmp, Ir.v_chain, Ir.v_and, Ir.v_or, Ir.v_not, Ir.v_ifx, Ir.v_neg, Ir.v_call, Ir.v_tup, Ir.v_lst, Ir.v_idx, Ir.v_idxL, Ir.v_slice, Ir.v_strOf, Ir.v_join, Ir.v_extend, Ir.v_append, Ir.v_len, Ir.v_isi, Ir.v_toInt, Ir.v_all, Ir.v_tupOf, Ir.v_dictOf, Ir.v_dlit, Ir.v_dget3, Ir.v_eqL, Ir.v_op1, Ir.v_op2, Ir.v_fstr, Ir.f_nil, Ir.f_cons, Ir.a_nil', Ir.a_cons', Ir.a_star', Ir.l_disp', Ir.l_of', Ir.l_cat', Ir.l_cut', Ir.b_no', Ir.b_at', Ir.i_tup', Ir.i_lst', Ir.i_str', Ir.i_rng', Ir.ss_nil', Ir.ss_asg, Ir.ss_expr, Ir.ss_ret, Ir.ss_unp, Ir.ss_ite, Ir.ss_setI, Ir.ss_for, Ir.finA_p, Ir.strD_str, Ir.ofD_tup, Ir.dicAt_eq, Ir.lstAt_eq, Ir.dget3_str, Ir.dixD_int, Ir.srcLst_eq, Ir.ofD_ref, Ir.tupD_ref, Ir.lenD_ref, Ir.lenD_tup, Ir.getI_ref, Ir.lsA_lst, Ir.ifA_t, Ir.appD_eq, Ir.extD_eq, Ir.catD_eq, Ir.rb_p, decide_true, decide_false, Bool.true_and, Bool.and_true, Ir.atA_no, Ir.atA_go, Ir.contA_next, Ir.contA_ret, Ir.size_fix, Ir.size_dyn, Ir.at_fix, Ir.at_dyn, Ir.turn_one, List.length_map, List.getElem?_nil, Ir.tgt, Ir.setAll, Bool.false_eq_true, List.set_nil, List.getElem?_cons_zero, List.getElem?_cons_succ, List.set_cons_zero, List.set_cons_succ, List.map_cons, List.map_nil, List.length_cons, List.length_nil, List.replicate_succ, List.replicate_zero, List.cons_append, List.nil_append, Option.map_some, Option.bind_some, Ir.app_get, Ir.app_get0, Ir.app_set, Ir.app_set0, Ir.app_take, Ir.app_one, Ir.len_app, Nat.reduceAdd, Nat.reduceSub, Nat.reduceLeDiff, if_true, if_false, tk]
        rfl
theorem lcovers_ok {B : List Str} (k : Nat) {m o : Mk} (hm : m.Ok B) (ho : o.Ok B) (sh : m.Sh) (S : Sto) : calK fs (k + 1) 3 [.p m.py, .p o.py] S = .val (.p (.bool (covM m o))) S := by
  rw [q3, callA S rfl]
  unfold b3
  have e1 : cop S .eq (.p m.py) (.p (.str "any")) = some (eqM m .any) := eq_py hm (b := .any) True.intro
  have e2 : cop S .eq (.p m.py) (.p o.py) = some (eqM m o) := eq_py hm ho
  have i1 := isi_t m
  have i2 := isi_t o
  have tk : S.take S.length = S := List.take_length
  have nt : (!true) = false := rfl
  have nf : (!false) = true := rfl
  cases m with
  | any =>
    have e1 : cop S .eq (.p (Mk.any).py) (.p (.str "any")) = some true := e1
    have i1 : isiD (.p (Mk.any).py) .tuple = some false := i1
    simp -dsimp only [Ir.then_val, Ir.optA_some, Ir.boolA_t, Ir.boolA_f, Ir.seqA_next, Ir.seqA_ret, Ir.wp_val_, Ir.v_var, Ir.v_cst, Ir.v_bin, Ir.v_cmp, Ir.v_chain, Ir.v_and, Ir.v_or, Ir.v_not, Ir.v_ifx, Ir.v_neg, Ir.v_call, Ir.v_tup, Ir.v_lst, Ir.v_idx, Ir.v_idxL, Ir.v_slice, Ir.v_strOf, Ir.v_join, Ir.v_extend, Ir.v_append, Ir.v_len, Ir.v_isi, Ir.v_toInt, Ir.v_all, Ir.v_tupOf, Ir.v_dictOf, Ir.v_dlit, Ir.v_dget3, Ir.v_eqL, Ir.v_op1, Ir.v_op2, Ir.v_fstr, Ir.f_nil, Ir.f_cons, Ir.a_nil', Ir.a_cons', Ir.a_star', Ir.l_disp', Ir.l_of', Ir.l_cat', Ir.l_cut', Ir.b_no', Ir.b_at', Ir.i_tup', Ir.i_lst', Ir.i_str', Ir.i_rng', Ir.ss_nil', Ir.ss_asg, Ir.ss_expr, Ir.ss_ret, Ir.ss_unp, Ir.ss_ite, Ir.ss_setI, Ir.ss_for, Ir.finA_p, Ir.strD_str, Ir.ofD_tup, Ir.dicAt_eq, Ir.lstAt_eq, Ir.dget3_str, Ir.dixD_int, Ir.srcLst_eq, Ir.ofD_ref, Ir.tupD_ref, Ir.lenD_ref, Ir.lenD_tup, Ir.getI_ref, Ir.lsA_lst, Ir.ifA_t, Ir.appD_eq, Ir.extD_eq, Ir.catD_eq, Ir.rb_p, decide_true, decide_false, Bool.true_and, Bool.and_true, Ir.atA_no, Ir.atA_go, Ir.contA_next, Ir.contA_ret, Ir.size_fix, Ir.size_dyn, Ir.at_fix, Ir.at_dyn, Ir.turn_one, List.length_map, List.getElem?_nil, Ir.tgt, Ir.setAll, Bool.false_eq_true, List.set_nil, List.getElem?_cons_zero, List.getElem?_cons_succ, List.set_cons_zero, List.set_cons_succ, List.map_cons, List.map_nil, List.length_cons, List.length_nil, List.replicate_succ, List.replicate_zero, List.cons_append, List.nil_append, Option.map_some, Option.bind_some, Ir.app_get, Ir.app_get0, Ir.app_set, Ir.app_set0, Ir.app_take, Ir.app_one, Ir.len_app, Nat.reduceAdd, Nat.reduceSub, Nat.reduceLeDiff, if_true, if_false, i1, nf, e1]
    simp -dsimp only [Ir.then_val, Ir.optA_some, Ir.boolA_t, Ir.boolA_f, Ir.seqA_next, Ir.seqA_ret, Ir.wp_val_, Ir.v_var, Ir.v_cst, Ir.v_bin, Ir.v_cmp, Ir.v_chain, Ir.v_and, Ir.v_or, Ir.v_not, Ir.v_ifx, Ir.v_neg, Ir.v_call, Ir.v_tup, Ir.v_lst, Ir.v_idx, Ir.v_idxL, Ir.v_slice, Ir.v_strOf, Ir.v_join, Ir.v_extend, Ir.v_append, Ir.v_len, Ir.v_isi, Ir.v_toInt, Ir.v_all, Ir.v_tupOf, Ir.v_dictOf, Ir.v_dlit, Ir.v_dget3, Ir.v_eqL, Ir.v_op1, Ir.v_op2, Ir.v_fstr, Ir.f_nil, Ir.f_cons, Ir.a_nil', Ir.a_cons', Ir.a_star', Ir.l_disp', Ir.l_of', Ir.l_cat', Ir.l_cut', Ir.b_no', Ir.b_at', Ir.i_tup', Ir.i_lst', Ir.i_str', Ir.i_rng', Ir.ss_nil', Ir.ss_asg, Ir.ss_expr, Ir.ss_ret, Ir.ss_unp, Ir.ss_ite, Ir.ss_setI, Ir.ss_for, Ir.finA_p, Ir.strD_str, Ir.ofD_tup, Ir.dicAt_eq, Ir.lstAt_eq, Ir.dget3_str, Ir.dixD_int, Ir.srcLst_eq, Ir.ofD_ref, Ir.tupD_ref, Ir.lenD_ref, Ir.lenD_tup, Ir.getI_ref, Ir.lsA_lst, Ir.ifA_t, Ir.appD_eq, Ir.extD_eq, Ir.catD_eq, Ir.rb_p, decide_true, decide_false, Bool.true_and, Bool.and_true, Ir.atA_no, Ir.atA_go, Ir.contA_next, Ir.contA_ret, Ir.size_fix, Ir.size_dyn, Ir.at_fix, Ir.at_dyn, Ir.turn_one, List.length_map, List.getElem?_nil, Ir.tgt, Ir.setAll, Bool.false_eq_true, List.set_nil, List.getElem?_cons_zero, List.getElem?_cons_succ, List.set_cons_zero, List.set_cons_succ, List.map_cons, List.map_nil, List.length_cons, List.length_nil, List.replicate_succ, List.replicate_zero, List.cons_append, List.nil_append, Option.map_some, Option.bind_some, Ir.app_get, Ir.app_get0, Ir.app_set, Ir.app_set0, Ir.app_take, Ir.app_one, Ir.len_app, Nat.reduceAdd, Nat.reduceSub, Nat.reduceLeDiff, if_true, if_false, tk]
    cases o <;> rfl
  | num =>
    have e1 : cop S .eq (.p (Mk.num).py) (.p (.str "any")) = some false := e1
    have i1 : isiD (.p (Mk.num).py) .tuple = some false := i1
    simp -dsimp only [Ir.then_val, Ir.optA_some, Ir.boolA_t, Ir.boolA_f, Ir.seqA_next, Ir.seqA_ret, Ir.wp_val_, Ir.v_var, Ir.v_cst, Ir.v_bin, Ir.v_cmp, Ir.v_chain, Ir.v_and, Ir.v_or, Ir.v_not, Ir.v_ifx, Ir.v_neg, Ir.v_call, Ir.v_tup, Ir.v_lst, Ir.v_idx, Ir.v_idxL, Ir.v_slice, Ir.v_strOf, Ir.v_join, Ir.v_extend, Ir.v_append, Ir.v_len, Ir.v_isi, Ir.v_toInt, Ir.v_all, Ir.v_tupOf, Ir.v_dictOf, Ir.v_dlit, Ir.v_dget3, Ir.v_eqL, Ir.v_op1, Ir.v_op2, Ir.v_fstr, Ir.f_nil, Ir.f_cons, Ir.a_nil', Ir.a_cons', Ir.a_star', Ir.l_disp', Ir.l_of', Ir.l_cat', Ir.l_cut', Ir.b_no', Ir.b_at', Ir.i_tup', Ir.i_lst', Ir.i_str', Ir.i_rng', Ir.ss_nil', Ir.ss_asg, Ir.ss_expr, Ir.ss_ret, Ir.ss_unp, Ir.ss_ite, Ir.ss_setI, Ir.ss_for, Ir.finA_p, Ir.strD_str, Ir.ofD_tup, Ir.dicAt_eq, Ir.lstAt_eq, Ir.dget3_str, Ir.dixD_int, Ir.srcLst_eq, Ir.ofD_ref, Ir.tupD_ref, Ir.lenD_ref, Ir.lenD_tup, Ir.getI_ref, Ir.lsA_lst, Ir.ifA_t, Ir.appD_eq, Ir.extD_eq, Ir.catD_eq, Ir.rb_p, decide_true, decide_false, Bool.true_and, Bool.and_true, Ir.atA_no, Ir.atA_go, Ir.contA_next, Ir.contA_ret, Ir.size_fix, Ir.size_dyn, Ir.at_fix, Ir.at_dyn, Ir.turn_one, List.length_map, List.getElem?_nil, Ir.tgt, Ir.setAll, Bool.false_eq_true, List.set_nil, List.getElem?_cons_zero, List.getElem?_cons_succ, List.set_cons_zero, List.set_cons_succ, List.map_cons, List.map_nil, List.length_cons, List.length_nil, List.replicate_succ, List.replicate_zero, List.cons_append, List.nil_append, Option.map_some, Option.bind_some, Ir.app_get, Ir.app_get0, Ir.app_set, Ir.app_set0, Ir.app_take, Ir.app_one, Ir.len_app, Nat.reduceAdd, Nat.reduceSub, Nat.reduceLeDiff, if_true, if_false, i1, nf, e1, e2]
    simp -dsimp only [Ir.then_val, Ir.optA_some, Ir.boolA_t, Ir.boolA_f, Ir.seqA_next, Ir.seqA_ret, Ir.wp_val_, Ir.v_var, Ir.v_cst, Ir.v_bin, Ir.v_cmp, Ir.v_chain, Ir.v_and, Ir.v_or, Ir.v_not, Ir.v_ifx, Ir.v_neg, Ir.v_call, Ir.v_tup, Ir.v_lst, Ir.v_idx, Ir.v_idxL, Ir.v_slice, Ir.v_strOf, Ir.v_join, Ir.v_extend, Ir.v_append, Ir.v_len, Ir.v_isi, Ir.v_toInt, Ir.v_all, Ir.v_tupOf, Ir.v_dictOf, Ir.v_dlit, Ir.v_dget3, Ir.v_eqL, Ir.v_op1, Ir.v_op2, Ir.v_fstr, Ir.f_nil, Ir.f_cons, Ir.a_nil', Ir.a_cons', Ir.a_star', Ir.l_disp', Ir.l_of', Ir.l_cat', Ir.l_cut', Ir.b_no', Ir.b_at', Ir.i_tup', Ir.i_lst', Ir.i_str', Ir.i_rng', Ir.ss_nil', Ir.ss_asg, Ir.ss_expr, Ir.ss_ret, Ir.ss_unp, Ir.ss_ite, Ir.ss_setI, Ir.ss_for, Ir.finA_p, Ir.strD_str, Ir.ofD_tup, Ir.dicAt_eq, Ir.lstAt_eq, Ir.dget3_str, Ir.dixD_int, Ir.srcLst_eq, Ir.ofD_ref, Ir.tupD_ref, Ir.lenD_ref, Ir.lenD_tup, Ir.getI_ref, Ir.lsA_lst, Ir.ifA_t, Ir.appD_eq, Ir.extD_eq, Ir.catD_eq, Ir.rb_p, decide_true, decide_false, Bool.true_and, Bool.and_true, Ir.atA_no, Ir.atA_go, Ir.contA_next, Ir.contA_ret, Ir.size_fix, Ir.size_dyn, Ir.at_fix, Ir.at_dyn, Ir.turn_one, List.length_map, List.getElem?_nil, Ir.tgt, Ir.setAll, Bool.false_eq_true, List.set_nil, List.getElem?_cons_zero, List.getElem?_cons_succ, List.set_cons_zero, List.set_cons_succ, List.map_cons, List.map_nil, List.length_cons, List.length_nil, List.replicate_succ, List.replicate_zero, List.cons_append, List.nil_append, Option.map_some, Option.bind_some, Ir.app_get, Ir.app_get0, Ir.app_set, Ir.app_set0, Ir.app_take, Ir.app_one, Ir.len_app, Nat.reduceAdd, Nat.reduceSub, Nat.reduceLeDiff, if_true, if_false, tk]
    cases o <;> rfl
  | tup zs =>
    have e1 : cop S .eq (.p (Mk.tup zs).py) (.p (.str "any")) = some false := e1
    have i1 : isiD (.p (Mk.tup zs).py) .tuple = some true := i1
    cases o with
    | num =>
      have i2 : isiD (.p (Mk.num).py) .tuple = some false := i2
      simp -dsimp only [Ir.then_val, Ir.optA_some, Ir.boolA_t, Ir.boolA_f, Ir.seqA_next, Ir.seqA_ret, Ir.wp_val_, Ir.v_var, Ir.v_cst, Ir.v_bin, Ir.v_cmp, Ir.v_chain, Ir.v_and, Ir.v_or, Ir.v_not, Ir.v_ifx, Ir.v_neg, Ir.v_call, Ir.v_tup, Ir.v_lst, Ir.v_idx, Ir.v_idxL, Ir.v_slice, Ir.v_strOf, Ir.v_join, Ir.v_extend, Ir.v_append, Ir.v_len, Ir.v_isi, Ir.v_toInt, Ir.v_all, Ir.v_tupOf, Ir.v_dictOf, Ir.v_dlit, Ir.v_dget3, Ir.v_eqL, Ir.v_op1, Ir.v_op2, Ir.v_fstr, Ir.f_nil, Ir.f_cons, Ir.a_nil', Ir.a_cons', Ir.a_star', Ir.l_disp', Ir.l_of', Ir.l_cat', Ir.l_cut', Ir.b_no', Ir.b_at', Ir.i_tup', Ir.i_lst', Ir.i_str', Ir.i_rng', Ir.ss_nil', Ir.ss_asg, Ir.ss_expr, Ir.ss_ret, Ir.ss_unp, Ir.ss_ite, Ir.ss_setI, Ir.ss_for, Ir.finA_p, Ir.strD_str, Ir.ofD_tup, Ir.dicAt_eq, Ir.lstAt_eq, Ir.dget3_str, Ir.dixD_int, Ir.srcLst_eq, Ir.ofD_ref, Ir.tupD_ref, Ir.lenD_ref, Ir.lenD_tup, Ir.getI_ref, Ir.lsA_lst, Ir.ifA_t, Ir.appD_eq, Ir.extD_eq, Ir.catD_eq, Ir.rb_p, decide_true, decide_false, Bool.true_and, Bool.and_true, Ir.atA_no, Ir.atA_go, Ir.contA_next, Ir.contA_ret, Ir.size_fix, Ir.size_dyn, Ir.at_fix, Ir.at_dyn, Ir.turn_one, List.length_map, List.getElem?_nil, Ir.tgt, Ir.setAll, Bool.false_eq_true, List.set_nil, List.getElem?_cons_zero, List.getElem?_cons_succ, List.set_cons_zero, List.set_cons_succ, List.map_cons, List.map_nil, List.length_cons, List.length_nil, List.replicate_succ, List.replicate_zero, List.cons_append, List.nil_append, Option.map_some, Option.bind_some, Ir.app_get, Ir.app_get0, Ir.app_set, Ir.app_set0, Ir.app_take, Ir.app_one, Ir.len_app, Nat.reduceAdd, Nat.reduceSub, Nat.reduceLeDiff, if_true, if_false, i1, i2, nt, nf, e1, e2]
      simp -dsimp only [Ir.then_val, Ir.optA_some, Ir.boolA_t, Ir.boolA_f, Ir.seqA_next, Ir.seqA_ret, Ir.wp_val_, Ir.v_var, Ir.v_cst, Ir.v_bin, Ir.v_cmp, Ir.v_chain, Ir.v_and, Ir.v_or, Ir.v_not, Ir.v_ifx, Ir.v_neg, Ir.v_call, Ir.v_tup, Ir.v_lst, Ir.v_idx, Ir.v_idxL, Ir.v_slice, Ir.v_strOf, Ir.v_join, Ir.v_extend, Ir.v_append, Ir.v_len, Ir.v_isi, Ir.v_toInt, Ir.v_all, Ir.v_tupOf, Ir.v_dictOf, Ir.v_dlit, Ir.v_dget3, Ir.v_eqL, Ir.v_op1, Ir.v_op2, Ir.v_fstr, Ir.f_nil, Ir.f_cons, Ir.a_nil', Ir.a_cons', Ir.a_star', Ir.l_disp', Ir.l_of', Ir.l_cat', Ir.l_cut', Ir.b_no', Ir.b_at', Ir.i_tup', Ir.i_lst', Ir.i_str', Ir.i_rng', Ir.ss_nil', Ir.ss_asg, Ir.ss_expr, Ir.ss_ret, Ir.ss_unp, Ir.ss_ite, Ir.ss_setI, Ir.ss_for, Ir.finA_p, Ir.strD_str, Ir.ofD_tup, Ir.dicAt_eq, Ir.lstAt_eq, Ir.dget3_str, Ir.dixD_int, Ir.srcLst_eq, Ir.ofD_ref, Ir.tupD_ref, Ir.lenD_ref, Ir.lenD_tup, Ir.getI_ref, Ir.lsA_lst, Ir.ifA_t, Ir.appD_eq, Ir.extD_eq, Ir.catD_eq, Ir.rb_p, decide_true, decide_false, Bool.true_and, Bool.and_true, Ir.atA_no, Ir.atA_go, Ir.contA_next, Ir.contA_ret, Ir.size_fix, Ir.size_dyn, Ir.at_fix, Ir.at_dyn, Ir.turn_one, List.length_map, List.getElem?_nil, Ir.tgt, Ir.setAll, Bool.false_eq_true, List.set_nil, List.getElem?_cons_zero, List.getElem?_cons_succ, List.set_cons_zero, List.set_cons_succ, List.map_cons, List.map_nil, List.length_cons, List.length_nil, List.replicate_succ, List.replicate_zero, List.cons_append, List.nil_append, Option.map_some, Option.bind_some, Ir.app_get, Ir.app_get0, Ir.app_set, Ir.app_set0, Ir.app_take, Ir.app_one, Ir.len_app, Nat.reduceAdd, Nat.reduceSub, Nat.reduceLeDiff, if_true, if_false, tk]
      rfl
    | any =>
      have i2 : isiD (.p (Mk.any).py) .tuple = some false := i2
      simp -dsimp only [Ir.then_val, Ir.optA_some, Ir.boolA_t, Ir.boolA_f, Ir.seqA_next, Ir.seqA_ret, Ir.wp_val_, Ir.v_var, Ir.v_cst, Ir.v_bin, Ir.v_cmp, Ir.v_chain, Ir.v_and, Ir.v_or, Ir.v_not, Ir.v_ifx, Ir.v_neg, Ir.v_call, Ir.v_tup, Ir.v_lst, Ir.v_idx, Ir.v_idxL, Ir.v_slice, Ir.v_strOf, Ir.v_join, Ir.v_extend, Ir.v_append, Ir.v_len, Ir.v_isi, Ir.v_toInt, Ir.v_all, Ir.v_tupOf, Ir.v_dictOf, Ir.v_dlit, Ir.v_dget3, Ir.v_eqL, Ir.v_op1, Ir.v_op2, Ir.v_fstr, Ir.f_nil, Ir.f_cons, Ir.a_nil', Ir.a_cons', Ir.a_star', Ir.l_disp', Ir.l_of', Ir.l_cat', Ir.l_cut', Ir.b_no', Ir.b_at', Ir.i_tup', Ir.i_lst', Ir.i_str', Ir.i_rng', Ir.ss_nil', Ir.ss_asg, Ir.ss_expr, Ir.ss_ret, Ir.ss_unp, Ir.ss_ite, Ir.ss_setI, Ir.ss_for, Ir.finA_p, Ir.strD_str, Ir.ofD_tup, Ir.dicAt_eq, Ir.lstAt_eq, Ir.dget3_str, Ir.dixD_int, Ir.srcLst_eq, Ir.ofD_ref, Ir.tupD_ref, Ir.lenD_ref, Ir.lenD_tup, Ir.getI_ref, Ir.lsA_lst, Ir.ifA_t, Ir.appD_eq, Ir.extD_eq, Ir.catD_eq, Ir.rb_p, decide_true, decide_false, Bool.true_and, Bool.and_true, Ir.atA_no, Ir.atA_go, Ir.contA_next, Ir.contA_ret, Ir.size_fix, Ir.size_dyn, Ir.at_fix, Ir.at_dyn, Ir.turn_one, List.length_map, List.getElem?_nil, Ir.tgt, Ir.setAll, Bool.false_eq_true, List.set_nil, List.getElem?_cons_zero, List.getElem?_cons_succ, List.set_cons_zero, List.set_cons_succ, List.map_cons, List.map_nil, List.length_cons, List.length_nil, List.replicate_succ, List.replicate_zero, List.cons_append, List.nil_append, Option.map_some, Option.bind_some, Ir.app_get, Ir.app_get0, Ir.app_set, Ir.app_set0, Ir.app_take, Ir.app_one, Ir.len_app, Nat.reduceAdd, Nat.reduceSub, Nat.reduceLeDiff, if_true, if_false, i1, i2, nt, nf, e1, e2]
      simp -dsimp only [Ir.then_val, Ir.optA_some, Ir.boolA_t, Ir.boolA_f, Ir.seqA_next, Ir.seqA_ret, Ir.wp_val_, Ir.v_var, Ir.v_cst, Ir.v_bin, Ir.v_cmp, Ir.v_chain, Ir.v_and, Ir.v_or, Ir.v_not, Ir.v_ifx, Ir.v_neg, Ir.v_call, Ir.v_tup, Ir.v_lst, Ir.v_idx, Ir.v_idxL, Ir.v_slice, Ir.v_strOf, Ir.v_join, Ir.v_extend, Ir.v_append, Ir.v_len, Ir.v_isi, Ir.v_toInt, Ir.v_all, Ir.v_tupOf, Ir.v_dictOf, Ir.v_dlit, Ir.v_dget3, Ir.v_eqL, Ir.v_op1, Ir.v_op2, Ir.v_fstr, Ir.f_nil, Ir.f_cons, Ir.a_nil', Ir.a_cons', Ir.a_star', Ir.l_disp', Ir.l_of', Ir.l_cat', Ir.l_cut', Ir.b_no', Ir.b_at', Ir.i_tup', Ir.i_lst', Ir.i_str', Ir.i_rng', Ir.ss_nil', Ir.ss_asg, Ir.ss_expr, Ir.ss_ret, Ir.ss_unp, Ir.ss_ite, Ir.ss_setI, Ir.ss_for, Ir.finA_p, Ir.strD_str, Ir.ofD_tup, Ir.dicAt_eq, Ir.lstAt_eq, Ir.dget3_str, Ir.dixD_int, Ir.srcLst_eq, Ir.ofD_ref, Ir.tupD_ref, Ir.lenD_ref, Ir.lenD_tup, Ir.getI_ref, Ir.lsA_lst, Ir.ifA_t, Ir.appD_eq, Ir.extD_eq, Ir.catD_eq, Ir.rb_p, decide_true, decide_false, Bool.true_and, Bool.and_true, Ir.atA_no, Ir.atA_go, Ir.contA_next, Ir.contA_ret, Ir.size_fix, Ir.size_dyn, Ir.at_fix, Ir.at_dyn, Ir.turn_one, List.length_map, List.getElem?_nil, Ir.tgt, Ir.setAll, Bool.false_eq_true, List.set_nil, List.getElem?_cons_zero, List.getElem?_cons_succ, List.set_cons_zero, List.set_cons_succ, List.map_cons, List.map_nil, List.length_cons, List.length_nil, List.replicate_succ, List.replicate_zero, List.cons_append, List.nil_append, Option.map_some, Option.bind_some, Ir.app_get, Ir.app_get0, Ir.app_set, Ir.app_set0, Ir.app_take, Ir.app_one, Ir.len_app, Nat.reduceAdd, Nat.reduceSub, Nat.reduceLeDiff, if_true, if_false, tk]
      rfl
    | tup ws =>
      have i2 : isiD (.p (Mk.tup ws).py) .tuple = some true := i2
      have lc := all_lc (calK fs k) zs ws S (Nat.le_trans sh (by omega))
      have lc : evL (calK fs k) (.lc (.tup (.var 0)) [2] true (.cmp .in_ (.var 2) (.var 1))) [some (.p (Mk.tup zs).py), some (.p (Mk.tup ws).py), none] S = _ := lc
      have bs := bools_all (fun z => decide (z ∈ ws)) zs
      simp -dsimp only [Ir.then_val, Ir.optA_some, Ir.boolA_t, Ir.boolA_f, Ir.seqA_next, Ir.seqA_ret, Ir.wp_val_, Ir.v_var, Ir.v_cst, Ir.v_bin, Ir.v_cmp, Ir.v_chain, Ir.v_and, Ir.v_or, Ir.v_not, Ir.v_ifx, Ir.v_neg, Ir.v_call, Ir.v_tup, Ir.v_lst, Ir.v_idx, Ir.v_idxL, Ir.v_slice, Ir.v_strOf, Ir.v_join, Ir.v_extend, Ir.v_append, Ir.v_len, Ir.v_isi, Ir.v_toInt, Ir.v_all, Ir.v_tupOf, Ir.v_dictOf, Ir.v_dlit, Ir.v_dget3, Ir.v_eqL, Ir.v_op1, Ir.v_op2, Ir.v_fstr, Ir.f_nil, Ir.f_cons, Ir.a_nil', Ir.a_cons', Ir.a_star', Ir.l_disp', Ir.l_of', Ir.l_cat', Ir.l_cut', Ir.b_no', Ir.b_at', Ir.i_tup', Ir.i_lst', Ir.i_str', Ir.i_rng', Ir.ss_nil', Ir.ss_asg, Ir.ss_expr, Ir.ss_ret, Ir.ss_unp, Ir.ss_ite, Ir.ss_setI, Ir.ss_for, Ir.finA_p, Ir.strD_str, Ir.ofD_tup, Ir.dicAt_eq, Ir.lstAt_eq, Ir.dget3_str, Ir.dixD_int, Ir.srcLst_eq, Ir.ofD_ref, Ir.tupD_ref, Ir.lenD_ref, Ir.lenD_tup, Ir.getI_ref, Ir.lsA_lst, Ir.ifA_t, Ir.appD_eq, Ir.extD_eq, Ir.catD_eq, Ir.rb_p, decide_true, decide_false, Bool.true_and, Bool.and_true, Ir.atA_no, Ir.atA_go, Ir.contA_next, Ir.contA_ret, Ir.size_fix, Ir.size_dyn, Ir.at_fix, Ir.at_dyn, Ir.turn_one, List.length_map, List.getElem?_nil, Ir.tgt, Ir.setAll, Bool.false_eq_true, List.set_nil, List.getElem?_cons_zero, List.getElem?_cons_succ, List.set_cons_zero, List.set_cons_succ, List.map_cons, List.map_nil, List.length_cons, List.length_nil, List.replicate_succ, List.replicate_zero, List.cons_append, List.nil_append, Option.map_some, Option.bind_some, Ir.app_get, Ir.app_get0, Ir.app_set, Ir.app_set0, Ir.app_take, Ir.app_one, Ir.len_app, Nat.reduceAdd, Nat.reduceSub, Nat.reduceLeDiff, if_true, if_false, i1, i2, nt, nf, lc, bs, allb]
      simp -dsimp only [Ir.then_val, Ir.optA_some, Ir.boolA_t, Ir.boolA_f, Ir.seqA_next, Ir.seqA_ret, Ir.wp_val_, Ir.v_var, Ir.v_cst, Ir.v_bin, Ir.v_cmp, Ir.v_chain, Ir.v_and, Ir.v_or, Ir.v_not, Ir.v_ifx, Ir.v_neg, Ir.v_call, Ir.v_tup, Ir.v_lst, Ir.v_idx, Ir.v_idxL, Ir.v_slice, Ir.v_strOf, Ir.v_join, Ir.v_extend, Ir.v_append, Ir.v_len, Ir.v_isi, Ir.v_toInt, Ir.v_all, Ir.v_tupOf, Ir.v_dictOf, Ir.v_dlit, Ir.v_dget3, Ir.v_eqL, Ir.v_op1, Ir.v_op2, Ir.v_fstr, Ir.f_nil, Ir.f_cons, Ir.a_nil', Ir.a_cons', Ir.a_star', Ir.l_disp', Ir.l_of', Ir.l_cat', Ir.l_cut', Ir.b_no', Ir.b_at', Ir.i_tup', Ir.i_lst', Ir.i_str', Ir.i_rng', Ir.ss_nil', Ir.ss_asg, Ir.ss_expr, Ir.ss_ret, Ir.ss_unp, Ir.ss_ite, Ir.ss_setI, Ir.ss_for, Ir.finA_p, Ir.strD_str, Ir.ofD_tup, Ir.dicAt_eq, Ir.lstAt_eq, Ir.dget3_str, Ir.dixD_int, Ir.srcLst_eq, Ir.ofD_ref, Ir.tupD_ref, Ir.lenD_ref, Ir.lenD_tup, Ir.getI_ref, Ir.lsA_lst, Ir.ifA_t, Ir.appD_eq, Ir.extD_eq, Ir.catD_eq, Ir.rb_p, decide_true, decide_false, Bool.true_and, Bool.and_true, Ir.atA_no, Ir.atA_go, Ir.contA_next, Ir.contA_ret, Ir.size_fix, Ir.size_dyn, Ir.at_fix, Ir.at_dyn, Ir.turn_one, List.length_map, List.getElem?_nil, Ir.tgt, Ir.setAll, Bool.false_eq_true, List.set_nil, List.getElem?_cons_zero, List.getElem?_cons_succ, List.set_cons_zero, List.set_cons_succ, List.map_cons, List.map_nil, List.length_cons, List.length_nil, List.replicate_succ, List.replicate_zero, List.cons_append, List.nil_append, Option.map_some, Option.bind_some, Ir.app_get, Ir.app_get0, Ir.app_set, Ir.app_set0, Ir.app_take, Ir.app_one, Ir.len_app, Nat.reduceAdd, Nat.reduceSub, Nat.reduceLeDiff, if_true, if_false, tk]
      rfl
end Ir.K26
set_option Elab.async false
set_option linter.all false
set_option maxRecDepth 100000
set_option maxHeartbeats 4000001
namespace Ir.K26
open PySem
theorem alloc_f (xs : List Str) (S : Sto) : alloc (.lst (xs.map fz)) S = .val (.ref S.length) (S ++ [.lst (xs.map fz)]) := by
  have h := alloc_plain (xs.map .str) S
  rw [List.map_map] at h
  exact h
theorem plain_f (xs : List Str) : plainOf (xs.map fz) = some (xs.map .str) := (strs_back xs).1
theorem incommon_ok {B : List Str} (k : Nat) {m o : Mk} (hm : m.Ok B) (ho : o.Ok B) (sh : m.Sh) (S : Sto) : calK fs (k + 1) 1 [.p m.py, .p o.py] S = .val (.p (comM m o).py) S := by
  rw [q1, callA S rfl]
  unfold b1
  have e2 : cop S .eq (.p m.py) (.p o.py) = some (eqM m o) := eq_py hm ho
  have i1 := isi_t m
  have i2 := isi_t o
  have tk : S.take S.length = S := List.take_length
  by_cases h : eqM m o = true
  · rw [h] at e2
    rw [com_self hm h]
    simp -dsimp only [Ir.then_val, Ir.optA_some, Ir.boolA_t, Ir.boolA_f, Ir.seqA_next, Ir.seqA_ret, Ir.wp_val_, Ir.v_var, Ir.v_cst, Ir.v_bin, Ir.v_cmp, Ir.v_chain, Ir.v_and, Ir.v_or, Ir.v_not, Ir.v_ifx, Ir.v_neg, Ir.v_call, Ir.v_tup, Ir.v_lst, Ir.v_idx, Ir.v_idxL, Ir.v_slice, Ir.v_strOf, Ir.v_join, Ir.v_extend, Ir.v_append, Ir.v_len, Ir.v_isi, Ir.v_toInt, Ir.v_all, Ir.v_tupOf, Ir.v_dictOf, Ir.v_dlit, Ir.v_dget3, Ir.v_eqL, Ir.v_op1, Ir.v_op2, Ir.v_fstr, Ir.f_nil, Ir.f_cons, Ir.a_nil', Ir.a_cons', Ir.a_star', Ir.l_disp', Ir.l_of', Ir.l_cat', Ir.l_cut', Ir.b_no', Ir.b_at', Ir.i_tup', Ir.i_lst', Ir.i_str', Ir.i_rng', Ir.ss_nil', Ir.ss_asg, Ir.ss_expr, Ir.ss_ret, Ir.ss_unp, Ir.ss_ite, Ir.ss_setI, Ir.ss_for, Ir.finA_p, Ir.strD_str, Ir.ofD_tup, Ir.dicAt_eq, Ir.lstAt_eq, Ir.dget3_str, Ir.dixD_int, Ir.srcLst_eq, Ir.ofD_ref, Ir.tupD_ref, Ir.lenD_ref, Ir.lenD_tup, Ir.getI_ref, Ir.lsA_lst, Ir.ifA_t, Ir.appD_eq, Ir.extD_eq, Ir.catD_eq, Ir.rb_p, decide_true, decide_false, Bool.true_and, Bool.and_true, Ir.atA_no, Ir.atA_go, Ir.contA_next, Ir.contA_ret, Ir.size_fix, Ir.size_dyn, Ir.at_fix, Ir.at_dyn, Ir.turn_one, List.length_map, List.getElem?_nil, Ir.tgt, Ir.setAll, Bool.false_eq_true, List.set_nil, List.getElem?_cons_zero, List.getElem?_cons_succ, List.set_cons_zero, List.set_cons_succ, List.map_cons, List.map_nil, List.length_cons, List.length_nil, List.replicate_succ, List.replicate_zero, List.cons_append, List.nil_append, Option.map_some, Option.bind_some, Ir.app_get, Ir.app_get0, Ir.app_set, Ir.app_set0, Ir.app_take, Ir.app_one, Ir.len_app, Nat.reduceAdd, Nat.reduceSub, Nat.reduceLeDiff, if_true, if_false, e2]
    simp -dsimp only [Ir.then_val, Ir.optA_some, Ir.boolA_t, Ir.boolA_f, Ir.seqA_next, Ir.seqA_ret, Ir.wp_val_, Ir.v_var, Ir.v_cst, Ir.v_bin, Ir.v_cmp, Ir.v_chain, Ir.v_and, Ir.v_or, Ir.v_not, Ir.v_ifx, Ir.v_neg, Ir.v_call, Ir.v_tup, Ir.v_lst, Ir.v_idx, Ir.v_idxL, Ir.v_slice, Ir.v_strOf, Ir.v_join, Ir.v_extend, Ir.v_append, Ir.v_len, Ir.v_isi, Ir.v_toInt, Ir.v_all, Ir.v_tupOf, Ir.v_dictOf, Ir.v_dlit, Ir.v_dget3, Ir.v_eqL, Ir.v_op1, Ir.v_op2, Ir.v_fstr, Ir.f_nil, Ir.f_cons, Ir.a_nil', Ir.a_cons', Ir.a_star', Ir.l_disp', Ir.l_of', Ir.l_cat', Ir.l_cut', Ir.b_no', Ir.b_at', Ir.i_tup', Ir.i_lst', Ir.i_str', Ir.i_rng', Ir.ss_nil', Ir.ss_asg, Ir.ss_expr, Ir.ss_ret, Ir.ss_unp, Ir.ss_ite, Ir.ss_setI, Ir.ss_for, Ir.finA_p, Ir.strD_str, Ir.ofD_tup, Ir.dicAt_eq, Ir.lstAt_eq, Ir.dget3_str, Ir.dixD_int, Ir.srcLst_eq, Ir.ofD_ref, Ir.tupD_ref, Ir.lenD_ref, Ir.lenD_tup, Ir.getI_ref, Ir.lsA_lst, Ir.ifA_t, Ir.appD_eq, Ir.extD_eq, Ir.catD_eq, Ir.rb_p, decide_true, decide_false, Bool.true_and, Bool.and_true, Ir.atA_no, Ir.atA_go, Ir.contA_next, Ir.contA_ret, Ir.size_fix, Ir.size_dyn, Ir.at_fix, Ir.at_dyn, Ir.turn_one, List.length_map, List.getElem?_nil, Ir.tgt, Ir.setAll, Bool.false_eq_true, List.set_nil, List.getElem?_cons_zero, List.getElem?_cons_succ, List.set_cons_zero, List.set_cons_succ, List.map_cons, List.map_nil, List.length_cons, List.length_nil, List.replicate_succ, List.replicate_zero, List.cons_append, List.nil_append, Option.map_some, Option.bind_some, Ir.app_get, Ir.app_get0, Ir.app_set, Ir.app_set0, Ir.app_take, Ir.app_one, Ir.len_app, Nat.reduceAdd, Nat.reduceSub, Nat.reduceLeDiff, if_true, if_false, tk]
  · have h := Bool.eq_false_iff.mpr h
    rw [h] at e2
    cases m with
    | tup zs =>
      have i1 : isiD (.p (Mk.tup zs).py) .tuple = some true := i1
      cases o with
      | tup ws =>
        have i2 : isiD (.p (Mk.tup ws).py) .tuple = some true := i2
        have lc := flt_lc (calK fs k) zs ws S (Nat.le_trans sh (by omega))
        have lc : evL (calK fs k) (.lcf (.tup (.var 0)) [2] true (.cmp .in_ (.var 2) (.var 1)) (.var 2)) [some (.p (Mk.tup zs).py), some (.p (Mk.tup ws).py), none] S = _ := lc
        simp -dsimp only [Ir.then_val, Ir.optA_some, Ir.boolA_t, Ir.boolA_f, Ir.seqA_next, Ir.seqA_ret, Ir.wp_val_, Ir.v_var, Ir.v_cst, Ir.v_bin, Ir.v_cmp, Ir.v_chain, Ir.v_and, Ir.v_or, Ir.v_not, Ir.v_ifx, Ir.v_neg, Ir.v_call, Ir.v_tup, Ir.v_lst, Ir.v_idx, Ir.v_idxL, Ir.v_slice, Ir.v_strOf, Ir.v_join, Ir.v_extend, Ir.v_append, Ir.v_len, Ir.v_isi, Ir.v_toInt, Ir.v_all, Ir.v_tupOf, Ir.v_dictOf, Ir.v_dlit, Ir.v_dget3, Ir.v_eqL, Ir.v_op1, Ir.v_op2, Ir.v_fstr, Ir.f_nil, Ir.f_cons, Ir.a_nil', Ir.a_cons', Ir.a_star', Ir.l_disp', Ir.l_of', Ir.l_cat', Ir.l_cut', Ir.b_no', Ir.b_at', Ir.i_tup', Ir.i_lst', Ir.i_str', Ir.i_rng', Ir.ss_nil', Ir.ss_asg, Ir.ss_expr, Ir.ss_ret, Ir.ss_unp, Ir.ss_ite, Ir.ss_setI, Ir.ss_for, Ir.finA_p, Ir.strD_str, Ir.ofD_tup, Ir.dicAt_eq, Ir.lstAt_eq, Ir.dget3_str, Ir.dixD_int, Ir.srcLst_eq, Ir.ofD_ref, Ir.tupD_ref, Ir.lenD_ref, Ir.lenD_tup, Ir.getI_ref, Ir.lsA_lst, Ir.ifA_t, Ir.appD_eq, Ir.extD_eq, Ir.catD_eq, Ir.rb_p, decide_true, decide_false, Bool.true_and, Bool.and_true, Ir.atA_no, Ir.atA_go, Ir.contA_next, Ir.contA_ret, Ir.size_fix, Ir.size_dyn, Ir.at_fix, Ir.at_dyn, Ir.turn_one, List.length_map, List.getElem?_nil, Ir.tgt, Ir.setAll, Bool.false_eq_true, List.set_nil, List.getElem?_cons_zero, List.getElem?_cons_succ, List.set_cons_zero, List.set_cons_succ, List.map_cons, List.map_nil, List.length_cons, List.length_nil, List.replicate_succ, List.replicate_zero, List.cons_append, List.nil_append, Option.map_some, Option.bind_some, Ir.app_get, Ir.app_get0, Ir.app_set, Ir.app_set0, Ir.app_take, Ir.app_one, Ir.len_app, Nat.reduceAdd, Nat.reduceSub, Nat.reduceLeDiff, if_true, if_false, e2, i1, i2, lc, alloc_f, plain_f]
        rfl
      | any =>
        have i2 : isiD (.p (Mk.any).py) .tuple = some false := i2
        simp -dsimp only [Ir.then_val, Ir.optA_some, Ir.boolA_t, Ir.boolA_f, Ir.seqA_next, Ir.seqA_ret, Ir.wp_val_, Ir.v_var, Ir.v_cst, Ir.v_bin, Ir.v_cmp, Ir.v_chain, Ir.v_and, Ir.v_or, Ir.v_not, Ir.v_ifx, Ir.v_neg, Ir.v_call, Ir.v_tup, Ir.v_lst, Ir.v_idx, Ir.v_idxL, Ir.v_slice, Ir.v_strOf, Ir.v_join, Ir.v_extend, Ir.v_append, Ir.v_len, Ir.v_isi, Ir.v_toInt, Ir.v_all, Ir.v_tupOf, Ir.v_dictOf, Ir.v_dlit, Ir.v_dget3, Ir.v_eqL, Ir.v_op1, Ir.v_op2, Ir.v_fstr, Ir.f_nil, Ir.f_cons, Ir.a_nil', Ir.a_cons', Ir.a_star', Ir.l_disp', Ir.l_of', Ir.l_cat', Ir.l_cut', Ir.b_no', Ir.b_at', Ir.i_tup', Ir.i_lst', Ir.i_str', Ir.i_rng', Ir.ss_nil', Ir.ss_asg, Ir.ss_expr, Ir.ss_ret, Ir.ss_unp, Ir.ss_ite, Ir.ss_setI, Ir.ss_for, Ir.finA_p, Ir.strD_str, Ir.ofD_tup, Ir.dicAt_eq, Ir.lstAt_eq, Ir.dget3_str, Ir.dixD_int, Ir.srcLst_eq, Ir.ofD_ref, Ir.tupD_ref, Ir.lenD_ref, Ir.lenD_tup, Ir.getI_ref, Ir.lsA_lst, Ir.ifA_t, Ir.appD_eq, Ir.extD_eq, Ir.catD_eq, Ir.rb_p, decide_true, decide_false, Bool.true_and, Bool.and_true, Ir.atA_no, Ir.atA_go, Ir.contA_next, Ir.contA_ret, Ir.size_fix, Ir.size_dyn, Ir.at_fix, Ir.at_dyn, Ir.turn_one, List.length_map, List.getElem?_nil, Ir.tgt, Ir.setAll, Bool.false_eq_true, List.set_nil, List.getElem?_cons_zero, List.getElem?_cons_succ, List.set_cons_zero, List.set_cons_succ, List.map_cons, List.map_nil, List.length_cons, List.length_nil, List.replicate_succ, List.replicate_zero, List.cons_append, List.nil_append, Option.map_some, Option.bind_some, Ir.app_get, Ir.app_get0, Ir.app_set, Ir.app_set0, Ir.app_take, Ir.app_one, Ir.len_app, Nat.reduceAdd, Nat.reduceSub, Nat.reduceLeDiff, if_true, if_false, e2, i1, i2]
        simp -dsimp only [Ir.then_val, Ir.optA_some, Ir.boolA_t, Ir.boolA_f, Ir.seqA_next, Ir.seqA_ret, Ir.wp_val_, Ir.v_var, Ir.v_cst, Ir.v_bin, Ir.v_cmp, Ir.v_chain, Ir.v_and, Ir.v_or, Ir.v_not, Ir.v_ifx, Ir.v_neg, Ir.v_call, Ir.v_tup, Ir.v_lst, Ir.v_idx, Ir.v_idxL, Ir.v_slice, Ir.v_strOf, Ir.v_join, Ir.v_extend, Ir.v_append, Ir.v_len, Ir.v_isi, Ir.v_toInt, Ir.v_all, Ir.v_tupOf, Ir.v_dictOf, Ir.v_dlit, Ir.v_dget3, Ir.v_eqL, Ir.v_op1, Ir.v_op2, Ir.v_fstr, Ir.f_nil, Ir.f_cons, Ir.a_nil', Ir.a_cons', Ir.a_star', Ir.l_disp', Ir.l_of', Ir.l_cat', Ir.l_cut', Ir.b_no', Ir.b_at', Ir.i_tup', Ir.i_lst', Ir.i_str', Ir.i_rng', Ir.ss_nil', Ir.ss_asg, Ir.ss_expr, Ir.ss_ret, Ir.ss_unp, Ir.ss_ite, Ir.ss_setI, Ir.ss_for, Ir.finA_p, Ir.strD_str, Ir.ofD_tup, Ir.dicAt_eq, Ir.lstAt_eq, Ir.dget3_str, Ir.dixD_int, Ir.srcLst_eq, Ir.ofD_ref, Ir.tupD_ref, Ir.lenD_ref, Ir.lenD_tup, Ir.getI_ref, Ir.lsA_lst, Ir.ifA_t, Ir.appD_eq, Ir.extD_eq, Ir.catD_eq, Ir.rb_p, decide_true, decide_false, Bool.true_and, Bool.and_true, Ir.atA_no, Ir.atA_go, Ir.contA_next, Ir.contA_ret, Ir.size_fix, Ir.size_dyn, Ir.at_fix, Ir.at_dyn, Ir.turn_one, List.length_map, List.getElem?_nil, Ir.tgt, Ir.setAll, Bool.false_eq_true, List.set_nil, List.getElem?_cons_zero, List.getElem?_cons_succ, List.set_cons_zero, List.set_cons_succ, List.map_cons, List.map_nil, List.length_cons, List.length_nil, List.replicate_succ, List.replicate_zero, List.cons_append, List.nil_append, Option.map_some, Option.bind_some, Ir.app_get, Ir.app_get0, Ir.app_set, Ir.app_set0, Ir.app_take, Ir.app_one, Ir.len_app, Nat.reduceAdd, Nat.reduceSub, Nat.reduceLeDiff, if_true, if_false, tk]
        rfl
      | num =>
        have i2 : isiD (.p (Mk.num).py) .tuple = some false := i2
        simp -dsimp only [Ir.then_val, Ir.optA_some, Ir.boolA_t, Ir.boolA_f, Ir.seqA_next, Ir.seqA_ret, Ir.wp_val_, Ir.v_var, Ir.v_cst, Ir.v_bin, Ir.v_cmp, Ir.v_chain, Ir.v_and, Ir.v_or, Ir.v_not, Ir.v_ifx, Ir.v_neg, Ir.v_call, Ir.v_tup, Ir.v_lst, Ir.v_idx, Ir.v_idxL, Ir.v_slice, Ir.v_strOf, Ir.v_join, Ir.v_extend, Ir.v_append, Ir.v_len, Ir.v_isi, Ir.v_toInt, Ir.v_all, Ir.v_tupOf, Ir.v_dictOf, Ir.v_dlit, Ir.v_dget3, Ir.v_eqL, Ir.v_op1, Ir.v_op2, Ir.v_fstr, Ir.f_nil, Ir.f_cons, Ir.a_nil', Ir.a_cons', Ir.a_star', Ir.l_disp', Ir.l_of', Ir.l_cat', Ir.l_cut', Ir.b_no', Ir.b_at', Ir.i_tup', Ir.i_lst', Ir.i_str', Ir.i_rng', Ir.ss_nil', Ir.ss_asg, Ir.ss_expr, Ir.ss_ret, Ir.ss_unp, Ir.ss_ite, Ir.ss_setI, Ir.ss_for, Ir.finA_p, Ir.strD_str, Ir.ofD_tup, Ir.dicAt_eq, Ir.lstAt_eq, Ir.dget3_str, Ir.dixD_int, Ir.srcLst_eq, Ir.ofD_ref, Ir.tupD_ref, Ir.lenD_ref, Ir.lenD_tup, Ir.getI_ref, Ir.lsA_lst, Ir.ifA_t, Ir.appD_eq, Ir.extD_eq, Ir.catD_eq, Ir.rb_p, decide_true, decide_false, Bool.true_and, Bool.and_true, Ir.atA_no, Ir.atA_go, Ir.contA_next, Ir.contA_ret, Ir.size_fix, Ir.size_dyn, Ir.at_fix, Ir.at_dyn, Ir.turn_one, List.length_map, List.getElem?_nil, Ir.tgt, Ir.setAll, Bool.false_eq_true, List.set_nil, List.getElem?_cons_zero, List.getElem?_cons_succ, List.set_cons_zero, List.set_cons_succ, List.map_cons, List.map_nil, List.length_cons, List.length_nil, List.replicate_succ, List.replicate_zero, List.cons_append, List.nil_append, Option.map_some, Option.bind_some, Ir.app_get, Ir.app_get0, Ir.app_set, Ir.app_set0, Ir.app_take, Ir.app_one, Ir.len_app, Nat.reduceAdd, Nat.reduceSub, Nat.reduceLeDiff, if_true, if_false, e2, i1, i2]
        simp -dsimp only [Ir.then_val, Ir.optA_some, Ir.boolA_t, Ir.boolA_f, Ir.seqA_next, Ir.seqA_ret, Ir.wp_val_, Ir.v_var, Ir.v_cst, Ir.v_bin, Ir.v_cmp, Ir.v_chain, Ir.v_and, Ir.v_or, Ir.v_not, Ir.v_ifx, Ir.v_neg, Ir.v_call, Ir.v_tup, Ir.v_lst, Ir.v_idx, Ir.v_idxL, Ir.v_slice, Ir.v_strOf, Ir.v_join, Ir.v_extend, Ir.v_append, Ir.v_len, Ir.v_isi, Ir.v_toInt, Ir.v_all, Ir.v_tupOf, Ir.v_dictOf, Ir.v_dlit, Ir.v_dget3, Ir.v_eqL, Ir.v_op1, Ir.v_op2, Ir.v_fstr, Ir.f_nil, Ir.f_cons, Ir.a_nil', Ir.a_cons', Ir.a_star', Ir.l_disp', Ir.l_of', Ir.l_cat', Ir.l_cut', Ir.b_no', Ir.b_at', Ir.i_tup', Ir.i_lst', Ir.i_str', Ir.i_rng', Ir.ss_nil', Ir.ss_asg, Ir.ss_expr, Ir.ss_ret, Ir.ss_unp, Ir.ss_ite, Ir.ss_setI, Ir.ss_for, Ir.finA_p, Ir.strD_str, Ir.ofD_tup, Ir.dicAt_eq, Ir.lstAt_eq, Ir.dget3_str, Ir.dixD_int, Ir.srcLst_eq, Ir.ofD_ref, Ir.tupD_ref, Ir.lenD_ref, Ir.lenD_tup, Ir.getI_ref, Ir.lsA_lst, Ir.ifA_t, Ir.appD_eq, Ir.extD_eq, Ir.catD_eq, Ir.rb_p, decide_true, decide_false, Bool.true_and, Bool.and_true, Ir.atA_no, Ir.atA_go, Ir.contA_next, Ir.contA_ret, Ir.size_fix, Ir.size_dyn, Ir.at_fix, Ir.at_dyn, Ir.turn_one, List.length_map, List.getElem?_nil, Ir.tgt, Ir.setAll, Bool.false_eq_true, List.set_nil, List.getElem?_cons_zero, List.getElem?_cons_succ, List.set_cons_zero, List.set_cons_succ, List.map_cons, List.map_nil, List.length_cons, List.length_nil, List.replicate_succ, List.replicate_zero, List.cons_append, List.nil_append, Option.map_some, Option.bind_some, Ir.app_get, Ir.app_get0, Ir.app_set, Ir.app_set0, Ir.app_take, Ir.app_one, Ir.len_app, Nat.reduceAdd, Nat.reduceSub, Nat.reduceLeDiff, if_true, if_false, tk]
        rfl
    | any =>
      have i1 : isiD (.p (Mk.any).py) .tuple = some false := i1
      simp -dsimp only [Ir.then_val, Ir.optA_some, Ir.boolA_t, Ir.boolA_f, Ir.seqA_next, Ir.seqA_ret, Ir.wp_val_, Ir.v_var, Ir.v_cst, Ir.v_bin, Ir.v_cmp, Ir.v_chain, Ir.v_and, Ir.v_or, Ir.v_not, Ir.v_ifx, Ir.v_neg, Ir.v_call, Ir.v_tup, Ir.v_lst, Ir.v_idx, Ir.v_idxL, Ir.v_slice, Ir.v_strOf, Ir.v_join, Ir.v_extend, Ir.v_append, Ir.v_len, Ir.v_isi, Ir.v_toInt, Ir.v_all, Ir.v_tupOf, Ir.v_dictOf, Ir.v_dlit, Ir.v_dget3, Ir.v_eqL, Ir.v_op1, Ir.v_op2, Ir.v_fstr, Ir.f_nil, Ir.f_cons, Ir.a_nil', Ir.a_cons', Ir.a_star', Ir.l_disp', Ir.l_of', Ir.l_cat', Ir.l_cut', Ir.b_no', Ir.b_at', Ir.i_tup', Ir.i_lst', Ir.i_str', Ir.i_rng', Ir.ss_nil', Ir.ss_asg, Ir.ss_expr, Ir.ss_ret, Ir.ss_unp, Ir.ss_ite, Ir.ss_setI, Ir.ss_for, Ir.finA_p, Ir.strD_str, Ir.ofD_tup, Ir.dicAt_eq, Ir.lstAt_eq, Ir.dget3_str, Ir.dixD_int, Ir.srcLst_eq, Ir.ofD_ref, Ir.tupD_ref, Ir.lenD_ref, Ir.lenD_tup, Ir.getI_ref, Ir.lsA_lst, Ir.ifA_t, Ir.appD_eq, Ir.extD_eq, Ir.catD_eq, Ir.rb_p, decide_true, decide_false, Bool.true_and, Bool.and_true, Ir.atA_no, Ir.atA_go, Ir.contA_next, Ir.contA_ret, Ir.size_fix, Ir.size_dyn, Ir.at_fix, Ir.at_dyn, Ir.turn_one, List.length_map, List.getElem?_nil, Ir.tgt, Ir.setAll, Bool.false_eq_true, List.set_nil, List.getElem?_cons_zero, List.getElem?_cons_succ, List.set_cons_zero, List.set_cons_succ, List.map_cons, List.map_nil, List.length_cons, List.length_nil, List.replicate_succ, List.replicate_zero, List.cons_append, List.nil_append, Option.map_some, Option.bind_some, Ir.app_get, Ir.app_get0, Ir.app_set, Ir.app_set0, Ir.app_take, Ir.app_one, Ir.len_app, Nat.reduceAdd, Nat.reduceSub, Nat.reduceLeDiff, if_true, if_false, e2, i1]
      simp -dsimp only [Ir.then_val, Ir.optA_some, Ir.boolA_t, Ir.boolA_f, Ir.seqA_next, Ir.seqA_ret, Ir.wp_val_, Ir.v_var, Ir.v_cst, Ir.v_bin, Ir.v_cmp, Ir.v_chain, Ir.v_and, Ir.v_or, Ir.v_not, Ir.v_ifx, Ir.v_neg, Ir.v_call, Ir.v_tup, Ir.v_lst, Ir.v_idx, Ir.v_idxL, Ir.v_slice, Ir.v_strOf, Ir.v_join, Ir.v_extend, Ir.v_append, Ir.v_len, Ir.v_isi, Ir.v_toInt, Ir.v_all, Ir.v_tupOf, Ir.v_dictOf, Ir.v_dlit, Ir.v_dget3, Ir.v_eqL, Ir.v_op1, Ir.v_op2, Ir.v_fstr, Ir.f_nil, Ir.f_cons, Ir.a_nil', Ir.a_cons', Ir.a_star', Ir.l_disp', Ir.l_of', Ir.l_cat', Ir.l_cut', Ir.b_no', Ir.b_at', Ir.i_tup', Ir.i_lst', Ir.i_str', Ir.i_rng', Ir.ss_nil', Ir.ss_asg, Ir.ss_expr, Ir.ss_ret, Ir.ss_unp, Ir.ss_ite, Ir.ss_setI, Ir.ss_for, Ir.finA_p, Ir.strD_str, Ir.ofD_tup, Ir.dicAt_eq, Ir.lstAt_eq, Ir.dget3_str, Ir.dixD_int, Ir.srcLst_eq, Ir.ofD_ref, Ir.tupD_ref, Ir.lenD_ref, Ir.lenD_tup, Ir.getI_ref, Ir.lsA_lst, Ir.ifA_t, Ir.appD_eq, Ir.extD_eq, Ir.catD_eq, Ir.rb_p, decide_true, decide_false, Bool.true_and, Bool.and_true, Ir.atA_no, Ir.atA_go, Ir.contA_next, Ir.contA_ret, Ir.size_fix, Ir.size_dyn, Ir.at_fix, Ir.at_dyn, Ir.turn_one, List.length_map, List.getElem?_nil, Ir.tgt, Ir.setAll, Bool.false_eq_true, List.set_nil, List.getElem?_cons_zero, List.getElem?_cons_succ, List.set_cons_zero, List.set_cons_succ, List.map_cons, List.map_nil, List.length_cons, List.length_nil, List.replicate_succ, List.replicate_zero, List.cons_append, List.nil_append, Option.map_some, Option.bind_some, Ir.app_get, Ir.app_get0, Ir.app_set, Ir.app_set0, Ir.app_take, Ir.app_one, Ir.len_app, Nat.reduceAdd, Nat.reduceSub, Nat.reduceLeDiff, if_true, if_false, tk]
      cases o <;> rfl
    | num =>
      have i1 : isiD (.p (Mk.num).py) .tuple = some false := i1
      simp -dsimp only [Ir.then_val, Ir.optA_some, Ir.boolA_t, Ir.boolA_f, Ir.seqA_next, Ir.seqA_ret, Ir.wp_val_, Ir.v_var, Ir.v_cst, Ir.v_bin, Ir.v_cmp, Ir.v_chain, Ir.v_and, Ir.v_or, Ir.v_not, Ir.v_ifx, Ir.v_neg, Ir.v_call, Ir.v_tup, Ir.v_lst, Ir.v_idx, Ir.v_idxL, Ir.v_slice, Ir.v_strOf, Ir.v_join, Ir.v_extend, Ir.v_append, Ir.v_len, Ir.v_isi, Ir.v_toInt, Ir.v_all, Ir.v_tupOf, Ir.v_dictOf, Ir.v_dlit, Ir.v_dget3, Ir.v_eqL, Ir.v_op1, Ir.v_op2, Ir.v_fstr, Ir.f_nil, Ir.f_cons, Ir.a_nil', Ir.a_cons', Ir.a_star', Ir.l_disp', Ir.l_of', Ir.l_cat', Ir.l_cut', Ir.b_no', Ir.b_at', Ir.i_tup', Ir.i_lst', Ir.i_str', Ir.i_rng', Ir.ss_nil', Ir.ss_asg, Ir.ss_expr, Ir.ss_ret, Ir.ss_unp, Ir.ss_ite, Ir.ss_setI, Ir.ss_for, Ir.finA_p, Ir.strD_str, Ir.ofD_tup, Ir.dicAt_eq, Ir.lstAt_eq, Ir.dget3_str, Ir.dixD_int, Ir.srcLst_eq, Ir.ofD_ref, Ir.tupD_ref, Ir.lenD_ref, Ir.lenD_tup, Ir.getI_ref, Ir.lsA_lst, Ir.ifA_t, Ir.appD_eq, Ir.extD_eq, Ir.catD_eq, Ir.rb_p, decide_true, decide_false, Bool.true_and, Bool.and_true, Ir.atA_no, Ir.atA_go, Ir.contA_next, Ir.contA_ret, Ir.size_fix, Ir.size_dyn, Ir.at_fix, Ir.at_dyn, Ir.turn_one, List.length_map, List.getElem?_nil, Ir.tgt, Ir.setAll, Bool.false_eq_true, List.set_nil, List.getElem?_cons_zero, List.getElem?_cons_succ, List.set_cons_zero, List.set_cons_succ, List.map_cons, List.map_nil, List.length_cons, List.length_nil, List.replicate_succ, List.replicate_zero, List.cons_append, List.nil_append, Option.map_some, Option.bind_some, Ir.app_get, Ir.app_get0, Ir.app_set, Ir.app_set0, Ir.app_take, Ir.app_one, Ir.len_app, Nat.reduceAdd, Nat.reduceSub, Nat.reduceLeDiff, if_true, if_false, e2, i1]
      simp -dsimp only [Ir.then_val, Ir.optA_some, Ir.boolA_t, Ir.boolA_f, Ir.seqA_next, Ir.seqA_ret, Ir.wp_val_, Ir.v_var, Ir.v_cst, Ir.v_bin, Ir.v_cmp, Ir.v_chain, Ir.v_and, Ir.v_or, Ir.v_not, Ir.v_ifx, Ir.v_neg, Ir.v_call, Ir.v_tup, Ir.v_lst, Ir.v_idx, Ir.v_idxL, Ir.v_slice, Ir.v_strOf, Ir.v_join, Ir.v_extend, Ir.v_append, Ir.v_len, Ir.v_isi, Ir.v_toInt, Ir.v_all, Ir.v_tupOf, Ir.v_dictOf, Ir.v_dlit, Ir.v_dget3, Ir.v_eqL, Ir.v_op1, Ir.v_op2, Ir.v_fstr, Ir.f_nil, Ir.f_cons, Ir.a_nil', Ir.a_cons', Ir.a_star', Ir.l_disp', Ir.l_of', Ir.l_cat', Ir.l_cut', Ir.b_no', Ir.b_at', Ir.i_tup', Ir.i_lst', Ir.i_str', Ir.i_rng', Ir.ss_nil', Ir.ss_asg, Ir.ss_expr, Ir.ss_ret, Ir.ss_unp, Ir.ss_ite, Ir.ss_setI, Ir.ss_for, Ir.finA_p, Ir.strD_str, Ir.ofD_tup, Ir.dicAt_eq, Ir.lstAt_eq, Ir.dget3_str, Ir.dixD_int, Ir.srcLst_eq, Ir.ofD_ref, Ir.tupD_ref, Ir.lenD_ref, Ir.lenD_tup, Ir.getI_ref, Ir.lsA_lst, Ir.ifA_t, Ir.appD_eq, Ir.extD_eq, Ir.catD_eq, Ir.rb_p, decide_true, decide_false, Bool.true_and, Bool.and_true, Ir.atA_no, Ir.atA_go, Ir.contA_next, Ir.contA_ret, Ir.size_fix, Ir.size_dyn, Ir.at_fix, Ir.at_dyn, Ir.turn_one, List.length_map, List.getElem?_nil, Ir.tgt, Ir.setAll, Bool.false_eq_true, List.set_nil, List.getElem?_cons_zero, List.getElem?_cons_succ, List.set_cons_zero, List.set_cons_succ, List.map_cons, List.map_nil, List.length_cons, List.length_nil, List.replicate_succ, List.replicate_zero, List.cons_append, List.nil_append, Option.map_some, Option.bind_some, Ir.app_get, Ir.app_get0, Ir.app_set, Ir.app_set0, Ir.app_take, Ir.app_one, Ir.len_app, Nat.reduceAdd, Nat.reduceSub, Nat.reduceLeDiff, if_true, if_false, tk]
      cases o <;> first | rfl | exact absurd h (by decide)
theorem at0 (a b : D) : L2.atI [a, b] 0 = some a := rfl
theorem at1 (a b : D) : L2.atI [a, b] 1 = some b := rfl
theorem int_t : intOf (.p (.bool true)) = some 1 := rfl
theorem int_f : intOf (.p (.bool false)) = some 0 := rfl
theorem asInt_i (i : Int) : asInt (.p (.int i)) = some i := rfl
theorem lcommon_ok {B : List Str} (k : Nat) {m o : Mk} (hm : m.Ok B) (ho : o.Ok B) (sh : m.Sh) (S : Sto) : calK fs (k + 1) 4 [.p m.py, .p o.py] S = .val (.p (comM m o).py) S := by
  rw [q4, callA S rfl]
  unfold b4
  have e2 : cop S .eq (.p m.py) (.p o.py) = some (eqM m o) := eq_py hm ho
  have i1 := isi_t m
  have i2 := isi_t o
  have tk : S.take S.length = S := List.take_length
  have two : (2 : Nat) ≤ 100000 := by omega
  have fin : isiD (.p m.py) .tuple = some false ∨ isiD (.p m.py) .tuple = some true ∧ isiD (.p o.py) .tuple = some false → finA S.length (exSs (calK fs k) b4 [some (.p m.py), some (.p o.py), none] S) = .val (.p (if eqM m o = true then m else .any).py) S := fun c => by
    unfold b4
    cases h : eqM m o with
    | true =>
      rw [h] at e2
      rcases c with c | ⟨c, c2⟩
      · simp -dsimp only [Ir.then_val, Ir.optA_some, Ir.boolA_t, Ir.boolA_f, Ir.seqA_next, Ir.seqA_ret, Ir.wp_val_, Ir.v_var, Ir.v_cst, Ir.v_bin, Ir.v_cmp, Ir.v_chain, Ir.v_and, Ir.v_or, Ir.v_not, Ir.v_ifx, Ir.v_neg, Ir.v_call, Ir.v_tup, Ir.v_lst, Ir.v_idx, Ir.v_idxL, Ir.v_slice, Ir.v_strOf, Ir.v_join, Ir.v_extend, Ir.v_append, Ir.v_len, Ir.v_isi, Ir.v_toInt, Ir.v_all, Ir.v_tupOf, Ir.v_dictOf, Ir.v_dlit, Ir.v_dget3, Ir.v_eqL, Ir.v_op1, Ir.v_op2, Ir.v_fstr, Ir.f_nil, Ir.f_cons, Ir.a_nil', Ir.a_cons', Ir.a_star', Ir.l_disp', Ir.l_of', Ir.l_cat', Ir.l_cut', Ir.b_no', Ir.b_at', Ir.i_tup', Ir.i_lst', Ir.i_str', Ir.i_rng', Ir.ss_nil', Ir.ss_asg, Ir.ss_expr, Ir.ss_ret, Ir.ss_unp, Ir.ss_ite, Ir.ss_setI, Ir.ss_for, Ir.finA_p, Ir.strD_str, Ir.ofD_tup, Ir.dicAt_eq, Ir.lstAt_eq, Ir.dget3_str, Ir.dixD_int, Ir.srcLst_eq, Ir.ofD_ref, Ir.tupD_ref, Ir.lenD_ref, Ir.lenD_tup, Ir.getI_ref, Ir.lsA_lst, Ir.ifA_t, Ir.appD_eq, Ir.extD_eq, Ir.catD_eq, Ir.rb_p, decide_true, decide_false, Bool.true_and, Bool.and_true, Ir.atA_no, Ir.atA_go, Ir.contA_next, Ir.contA_ret, Ir.size_fix, Ir.size_dyn, Ir.at_fix, Ir.at_dyn, Ir.turn_one, List.length_map, List.getElem?_nil, Ir.tgt, Ir.setAll, Bool.false_eq_true, List.set_nil, List.getElem?_cons_zero, List.getElem?_cons_succ, List.set_cons_zero, List.set_cons_succ, List.map_cons, List.map_nil, List.length_cons, List.length_nil, List.replicate_succ, List.replicate_zero, List.cons_append, List.nil_append, Option.map_some, Option.bind_some, Ir.app_get, Ir.app_get0, Ir.app_set, Ir.app_set0, Ir.app_take, Ir.app_one, Ir.len_app, Nat.reduceAdd, Nat.reduceSub, Nat.reduceLeDiff, if_true, if_false, c, e2, two, int_t, asInt_i, at1]
        simp -dsimp only [Ir.then_val, Ir.optA_some, Ir.boolA_t, Ir.boolA_f, Ir.seqA_next, Ir.seqA_ret, Ir.wp_val_, Ir.v_var, Ir.v_cst, Ir.v_bin, Ir.v_cmp, Ir.v_chain, Ir.v_and, Ir.v_or, Ir.v_not, Ir.v_ifx, Ir.v_neg, Ir.v_call, Ir.v_tup, Ir.v_lst, Ir.v_idx, Ir.v_idxL, Ir.v_slice, Ir.v_strOf, Ir.v_join, Ir.v_extend, Ir.v_append, Ir.v_len, Ir.v_isi, Ir.v_toInt, Ir.v_all, Ir.v_tupOf, Ir.v_dictOf, Ir.v_dlit, Ir.v_dget3, Ir.v_eqL, Ir.v_op1, Ir.v_op2, Ir.v_fstr, Ir.f_nil, Ir.f_cons, Ir.a_nil', Ir.a_cons', Ir.a_star', Ir.l_disp', Ir.l_of', Ir.l_cat', Ir.l_cut', Ir.b_no', Ir.b_at', Ir.i_tup', Ir.i_lst', Ir.i_str', Ir.i_rng', Ir.ss_nil', Ir.ss_asg, Ir.ss_expr, Ir.ss_ret, Ir.ss_unp, Ir.ss_ite, Ir.ss_setI, Ir.ss_for, Ir.finA_p, Ir.strD_str, Ir.ofD_tup, Ir.dicAt_eq, Ir.lstAt_eq, Ir.dget3_str, Ir.dixD_int, Ir.srcLst_eq, Ir.ofD_ref, Ir.tupD_ref, Ir.lenD_ref, Ir.lenD_tup, Ir.getI_ref, Ir.lsA_lst, Ir.ifA_t, Ir.appD_eq, Ir.extD_eq, Ir.catD_eq, Ir.rb_p, decide_true, decide_false, Bool.true_and, Bool.and_true, Ir.atA_no, Ir.atA_go, Ir.contA_next, Ir.contA_ret, Ir.size_fix, Ir.size_dyn, Ir.at_fix, Ir.at_dyn, Ir.turn_one, List.length_map, List.getElem?_nil, Ir.tgt, Ir.setAll, Bool.false_eq_true, List.set_nil, List.getElem?_cons_zero, List.getElem?_cons_succ, List.set_cons_zero, List.set_cons_succ, List.map_cons, List.map_nil, List.length_cons, List.length_nil, List.replicate_succ, List.replicate_zero, List.cons_append, List.nil_append, Option.map_some, Option.bind_some, Ir.app_get, Ir.app_get0, Ir.app_set, Ir.app_set0, Ir.app_take, Ir.app_one, Ir.len_app, Nat.reduceAdd, Nat.reduceSub, Nat.reduceLeDiff, if_true, if_false, tk]
      · simp -dsimp only [Ir.then_val, Ir.optA_some, Ir.boolA_t, Ir.boolA_f, Ir.seqA_next, Ir.seqA_ret, Ir.wp_val_, Ir.v_var, Ir.v_cst, Ir.v_bin, Ir.v_cmp, Ir.v_chain, Ir.v_and, Ir.v_or, Ir.v_not, Ir.v_ifx, Ir.v_neg, Ir.v_call, Ir.v_tup, Ir.v_lst, Ir.v_idx, Ir.v_idxL, Ir.v_slice, Ir.v_strOf, Ir.v_join, Ir.v_extend, Ir.v_append, Ir.v_len, Ir.v_isi, Ir.v_toInt, Ir.v_all, Ir.v_tupOf, Ir.v_dictOf, Ir.v_dlit, Ir.v_dget3, Ir.v_eqL, Ir.v_op1, Ir.v_op2, Ir.v_fstr, Ir.f_nil, Ir.f_cons, Ir.a_nil', Ir.a_cons', Ir.a_star', Ir.l_disp', Ir.l_of', Ir.l_cat', Ir.l_cut', Ir.b_no', Ir.b_at', Ir.i_tup', Ir.i_lst', Ir.i_str', Ir.i_rng', Ir.ss_nil', Ir.ss_asg, Ir.ss_expr, Ir.ss_ret, Ir.ss_unp, Ir.ss_ite, Ir.ss_setI, Ir.ss_for, Ir.finA_p, Ir.strD_str, Ir.ofD_tup, Ir.dicAt_eq, Ir.lstAt_eq, Ir.dget3_str, Ir.dixD_int, Ir.srcLst_eq, Ir.ofD_ref, Ir.tupD_ref, Ir.lenD_ref, Ir.lenD_tup, Ir.getI_ref, Ir.lsA_lst, Ir.ifA_t, Ir.appD_eq, Ir.extD_eq, Ir.catD_eq, Ir.rb_p, decide_true, decide_false, Bool.true_and, Bool.and_true, Ir.atA_no, Ir.atA_go, Ir.contA_next, Ir.contA_ret, Ir.size_fix, Ir.size_dyn, Ir.at_fix, Ir.at_dyn, Ir.turn_one, List.length_map, List.getElem?_nil, Ir.tgt, Ir.setAll, Bool.false_eq_true, List.set_nil, List.getElem?_cons_zero, List.getElem?_cons_succ, List.set_cons_zero, List.set_cons_succ, List.map_cons, List.map_nil, List.length_cons, List.length_nil, List.replicate_succ, List.replicate_zero, List.cons_append, List.nil_append, Option.map_some, Option.bind_some, Ir.app_get, Ir.app_get0, Ir.app_set, Ir.app_set0, Ir.app_take, Ir.app_one, Ir.len_app, Nat.reduceAdd, Nat.reduceSub, Nat.reduceLeDiff, if_true, if_false, c, c2, e2, two, int_t, asInt_i, at1]
        simp -dsimp only [Ir.then_val, Ir.optA_some, Ir.boolA_t, Ir.boolA_f, Ir.seqA_next, Ir.seqA_ret, Ir.wp_val_, Ir.v_var, Ir.v_cst, Ir.v_bin, Ir.v_cmp, Ir.v_chain, Ir.v_and, Ir.v_or, Ir.v_not, Ir.v_ifx, Ir.v_neg, Ir.v_call, Ir.v_tup, Ir.v_lst, Ir.v_idx, Ir.v_idxL, Ir.v_slice, Ir.v_strOf, Ir.v_join, Ir.v_extend, Ir.v_append, Ir.v_len, Ir.v_isi, Ir.v_toInt, Ir.v_all, Ir.v_tupOf, Ir.v_dictOf, Ir.v_dlit, Ir.v_dget3, Ir.v_eqL, Ir.v_op1, Ir.v_op2, Ir.v_fstr, Ir.f_nil, Ir.f_cons, Ir.a_nil', Ir.a_cons', Ir.a_star', Ir.l_disp', Ir.l_of', Ir.l_cat', Ir.l_cut', Ir.b_no', Ir.b_at', Ir.i_tup', Ir.i_lst', Ir.i_str', Ir.i_rng', Ir.ss_nil', Ir.ss_asg, Ir.ss_expr, Ir.ss_ret, Ir.ss_unp, Ir.ss_ite, Ir.ss_setI, Ir.ss_for, Ir.finA_p, Ir.strD_str, Ir.ofD_tup, Ir.dicAt_eq, Ir.lstAt_eq, Ir.dget3_str, Ir.dixD_int, Ir.srcLst_eq, Ir.ofD_ref, Ir.tupD_ref, Ir.lenD_ref, Ir.lenD_tup, Ir.getI_ref, Ir.lsA_lst, Ir.ifA_t, Ir.appD_eq, Ir.extD_eq, Ir.catD_eq, Ir.rb_p, decide_true, decide_false, Bool.true_and, Bool.and_true, Ir.atA_no, Ir.atA_go, Ir.contA_next, Ir.contA_ret, Ir.size_fix, Ir.size_dyn, Ir.at_fix, Ir.at_dyn, Ir.turn_one, List.length_map, List.getElem?_nil, Ir.tgt, Ir.setAll, Bool.false_eq_true, List.set_nil, List.getElem?_cons_zero, List.getElem?_cons_succ, List.set_cons_zero, List.set_cons_succ, List.map_cons, List.map_nil, List.length_cons, List.length_nil, List.replicate_succ, List.replicate_zero, List.cons_append, List.nil_append, Option.map_some, Option.bind_some, Ir.app_get, Ir.app_get0, Ir.app_set, Ir.app_set0, Ir.app_take, Ir.app_one, Ir.len_app, Nat.reduceAdd, Nat.reduceSub, Nat.reduceLeDiff, if_true, if_false, tk]
    | false =>
      rw [h] at e2
      rcases c with c | ⟨c, c2⟩
      · simp -dsimp only [Ir.then_val, Ir.optA_some, Ir.boolA_t, Ir.boolA_f, Ir.seqA_next, Ir.seqA_ret, Ir.wp_val_, Ir.v_var, Ir.v_cst, Ir.v_bin, Ir.v_cmp, Ir.v_chain, Ir.v_and, Ir.v_or, Ir.v_not, Ir.v_ifx, Ir.v_neg, Ir.v_call, Ir.v_tup, Ir.v_lst, Ir.v_idx, Ir.v_idxL, Ir.v_slice, Ir.v_strOf, Ir.v_join, Ir.v_extend, Ir.v_append, Ir.v_len, Ir.v_isi, Ir.v_toInt, Ir.v_all, Ir.v_tupOf, Ir.v_dictOf, Ir.v_dlit, Ir.v_dget3, Ir.v_eqL, Ir.v_op1, Ir.v_op2, Ir.v_fstr, Ir.f_nil, Ir.f_cons, Ir.a_nil', Ir.a_cons', Ir.a_star', Ir.l_disp', Ir.l_of', Ir.l_cat', Ir.l_cut', Ir.b_no', Ir.b_at', Ir.i_tup', Ir.i_lst', Ir.i_str', Ir.i_rng', Ir.ss_nil', Ir.ss_asg, Ir.ss_expr, Ir.ss_ret, Ir.ss_unp, Ir.ss_ite, Ir.ss_setI, Ir.ss_for, Ir.finA_p, Ir.strD_str, Ir.ofD_tup, Ir.dicAt_eq, Ir.lstAt_eq, Ir.dget3_str, Ir.dixD_int, Ir.srcLst_eq, Ir.ofD_ref, Ir.tupD_ref, Ir.lenD_ref, Ir.lenD_tup, Ir.getI_ref, Ir.lsA_lst, Ir.ifA_t, Ir.appD_eq, Ir.extD_eq, Ir.catD_eq, Ir.rb_p, decide_true, decide_false, Bool.true_and, Bool.and_true, Ir.atA_no, Ir.atA_go, Ir.contA_next, Ir.contA_ret, Ir.size_fix, Ir.size_dyn, Ir.at_fix, Ir.at_dyn, Ir.turn_one, List.length_map, List.getElem?_nil, Ir.tgt, Ir.setAll, Bool.false_eq_true, List.set_nil, List.getElem?_cons_zero, List.getElem?_cons_succ, List.set_cons_zero, List.set_cons_succ, List.map_cons, List.map_nil, List.length_cons, List.length_nil, List.replicate_succ, List.replicate_zero, List.cons_append, List.nil_append, Option.map_some, Option.bind_some, Ir.app_get, Ir.app_get0, Ir.app_set, Ir.app_set0, Ir.app_take, Ir.app_one, Ir.len_app, Nat.reduceAdd, Nat.reduceSub, Nat.reduceLeDiff, if_true, if_false, c, e2, two, int_f, asInt_i, at0]
        simp -dsimp only [Ir.then_val, Ir.optA_some, Ir.boolA_t, Ir.boolA_f, Ir.seqA_next, Ir.seqA_ret, Ir.wp_val_, Ir.v_var, Ir.v_cst, Ir.v_bin, Ir.v_cmp, Ir.v_chain, Ir.v_and, Ir.v_or, Ir.v_not, Ir.v_ifx, Ir.v_neg, Ir.v_call, Ir.v_tup, Ir.v_lst, Ir.v_idx, Ir.v_idxL, Ir.v_slice, Ir.v_strOf, Ir.v_join, Ir.v_extend, Ir.v_append, Ir.v_len, Ir.v_isi, Ir.v_toInt, Ir.v_all, Ir.v_tupOf, Ir.v_dictOf, Ir.v_dlit, Ir.v_dget3, Ir.v_eqL, Ir.v_op1, Ir.v_op2, Ir.v_fstr, Ir.f_nil, Ir.f_cons, Ir.a_nil', Ir.a_cons', Ir.a_star', Ir.l_disp', Ir.l_of', Ir.l_cat', Ir.l_cut', Ir.b_no', Ir.b_at', Ir.i_tup', Ir.i_lst', Ir.i_str', Ir.i_rng', Ir.ss_nil', Ir.ss_asg, Ir.ss_expr, Ir.ss_ret, Ir.ss_unp, Ir.ss_ite, Ir.ss_setI, Ir.ss_for, Ir.finA_p, Ir.strD_str, Ir.ofD_tup, Ir.dicAt_eq, Ir.lstAt_eq, Ir.dget3_str, Ir.dixD_int, Ir.srcLst_eq, Ir.ofD_ref, Ir.tupD_ref, Ir.lenD_ref, Ir.lenD_tup, Ir.getI_ref, Ir.lsA_lst, Ir.ifA_t, Ir.appD_eq, Ir.extD_eq, Ir.catD_eq, Ir.rb_p, decide_true, decide_false, Bool.true_and, Bool.and_true, Ir.atA_no, Ir.atA_go, Ir.contA_next, Ir.contA_ret, Ir.size_fix, Ir.size_dyn, Ir.at_fix, Ir.at_dyn, Ir.turn_one, List.length_map, List.getElem?_nil, Ir.tgt, Ir.setAll, Bool.false_eq_true, List.set_nil, List.getElem?_cons_zero, List.getElem?_cons_succ, List.set_cons_zero, List.set_cons_succ, List.map_cons, List.map_nil, List.length_cons, List.length_nil, List.replicate_succ, List.replicate_zero, List.cons_append, List.nil_append, Option.map_some, Option.bind_some, Ir.app_get, Ir.app_get0, Ir.app_set, Ir.app_set0, Ir.app_take, Ir.app_one, Ir.len_app, Nat.reduceAdd, Nat.reduceSub, Nat.reduceLeDiff, if_true, if_false, tk]
        rfl
      · simp -dsimp only [Ir.then_val, Ir.optA_some, Ir.boolA_t, Ir.boolA_f, Ir.seqA_next, Ir.seqA_ret, Ir.wp_val_, Ir.v_var, Ir.v_cst, Ir.v_bin, Ir.v_cmp, Ir.v_chain, Ir.v_and, Ir.v_or, Ir.v_not, Ir.v_ifx, Ir.v_neg, Ir.v_call, Ir.v_tup, Ir.v_lst, Ir.v_idx, Ir.v_idxL, Ir.v_slice, Ir.v_strOf, Ir.v_join, Ir.v_extend, Ir.v_append, Ir.v_len, Ir.v_isi, Ir.v_toInt, Ir.v_all, Ir.v_tupOf, Ir.v_dictOf, Ir.v_dlit, Ir.v_dget3, Ir.v_eqL, Ir.v_op1, Ir.v_op2, Ir.v_fstr, Ir.f_nil, Ir.f_cons, Ir.a_nil', Ir.a_cons', Ir.a_star', Ir.l_disp', Ir.l_of', Ir.l_cat', Ir.l_cut', Ir.b_no', Ir.b_at', Ir.i_tup', Ir.i_lst', Ir.i_str', Ir.i_rng', Ir.ss_nil', Ir.ss_asg, Ir.ss_expr, Ir.ss_ret, Ir.ss_unp, Ir.ss_ite, Ir.ss_setI, Ir.ss_for, Ir.finA_p, Ir.strD_str, Ir.ofD_tup, Ir.dicAt_eq, Ir.lstAt_eq, Ir.dget3_str, Ir.dixD_int, Ir.srcLst_eq, Ir.ofD_ref, Ir.tupD_ref, Ir.lenD_ref, Ir.lenD_tup, Ir.getI_ref, Ir.lsA_lst, Ir.ifA_t, Ir.appD_eq, Ir.extD_eq, Ir.catD_eq, Ir.rb_p, decide_true, decide_false, Bool.true_and, Bool.and_true, Ir.atA_no, Ir.atA_go, Ir.contA_next, Ir.contA_ret, Ir.size_fix, Ir.size_dyn, Ir.at_fix, Ir.at_dyn, Ir.turn_one, List.length_map, List.getElem?_nil, Ir.tgt, Ir.setAll, Bool.false_eq_true, List.set_nil, List.getElem?_cons_zero, List.getElem?_cons_succ, List.set_cons_zero, List.set_cons_succ, List.map_cons, List.map_nil, List.length_cons, List.length_nil, List.replicate_succ, List.replicate_zero, List.cons_append, List.nil_append, Option.map_some, Option.bind_some, Ir.app_get, Ir.app_get0, Ir.app_set, Ir.app_set0, Ir.app_take, Ir.app_one, Ir.len_app, Nat.reduceAdd, Nat.reduceSub, Nat.reduceLeDiff, if_true, if_false, c, c2, e2, two, int_f, asInt_i, at0]
        simp -dsimp only [Ir.then_val, Ir.optA_some, Ir.boolA_t, Ir.boolA_f, Ir.seqA_next, Ir.seqA_ret, Ir.wp_val_, Ir.v_var, Ir.v_cst, Ir.v_bin, Ir.v_cmp, Ir.v_chain, Ir.v_and, Ir.v_or, Ir.v_not, Ir.v_ifx, Ir.v_neg, Ir.v_call, Ir.v_tup, Ir.v_lst, Ir.v_idx, Ir.v_idxL, Ir.v_slice, Ir.v_strOf, Ir.v_join, Ir.v_extend, Ir.v_append, Ir.v_len, Ir.v_isi, Ir.v_toInt, Ir.v_all, Ir.v_tupOf, Ir.v_dictOf, Ir.v_dlit, Ir.v_dget3, Ir.v_eqL, Ir.v_op1, Ir.v_op2, Ir.v_fstr, Ir.f_nil, Ir.f_cons, Ir.a_nil', Ir.a_cons', Ir.a_star', Ir.l_disp', Ir.l_of', Ir.l_cat', Ir.l_cut', Ir.b_no', Ir.b_at', Ir.i_tup', Ir.i_lst', Ir.i_str', Ir.i_rng', Ir.ss_nil', Ir.ss_asg, Ir.ss_expr, Ir.ss_ret, Ir.ss_unp, Ir.ss_ite, Ir.ss_setI, Ir.ss_for, Ir.finA_p, Ir.strD_str, Ir.ofD_tup, Ir.dicAt_eq, Ir.lstAt_eq, Ir.dget3_str, Ir.dixD_int, Ir.srcLst_eq, Ir.ofD_ref, Ir.tupD_ref, Ir.lenD_ref, Ir.lenD_tup, Ir.getI_ref, Ir.lsA_lst, Ir.ifA_t, Ir.appD_eq, Ir.extD_eq, Ir.catD_eq, Ir.rb_p, decide_true, decide_false, Bool.true_and, Bool.and_true, Ir.atA_no, Ir.atA_go, Ir.contA_next, Ir.contA_ret, Ir.size_fix, Ir.size_dyn, Ir.at_fix, Ir.at_dyn, Ir.turn_one, List.length_map, List.getElem?_nil, Ir.tgt, Ir.setAll, Bool.false_eq_true, List.set_nil, List.getElem?_cons_zero, List.getElem?_cons_succ, List.set_cons_zero, List.set_cons_succ, List.map_cons, List.map_nil, List.length_cons, List.length_nil, List.replicate_succ, List.replicate_zero, List.cons_append, List.nil_append, Option.map_some, Option.bind_some, Ir.app_get, Ir.app_get0, Ir.app_set, Ir.app_set0, Ir.app_take, Ir.app_one, Ir.len_app, Nat.reduceAdd, Nat.reduceSub, Nat.reduceLeDiff, if_true, if_false, tk]
        rfl
  unfold b4 at fin
  have same : ∀ c : Bool, c = eqM m o → (match m, o with | .tup _, .tup _ => False | _, _ => True) → (if c = true then m else Mk.any) = comM m o := by
    intro c hc hx
    subst hc
    cases m <;> cases o <;> first | rfl | exact hx.elim
  cases m with
  | tup zs =>
    have i1 : isiD (.p (Mk.tup zs).py) .tuple = some true := i1
    cases o with
    | tup ws =>
      have i2 : isiD (.p (Mk.tup ws).py) .tuple = some true := i2
      have lc := flt_lc (calK fs k) zs ws S (Nat.le_trans sh (by omega))
      have lc : evL (calK fs k) (.lcf (.tup (.var 0)) [2] true (.cmp .in_ (.var 2) (.var 1)) (.var 2)) [some (.p (Mk.tup zs).py), some (.p (Mk.tup ws).py), none] S = _ := lc
      simp -dsimp only [Ir.then_val, Ir.optA_some, Ir.boolA_t, Ir.boolA_f, Ir.seqA_next, Ir.seqA_ret, Ir.wp_val_, Ir.v_var, Ir.v_cst, Ir.v_bin, Ir.v_cmp, Ir.v_chain, Ir.v_and, Ir.v_or, Ir.v_not, Ir.v_ifx, Ir.v_neg, Ir.v_call, Ir.v_tup, Ir.v_lst, Ir.v_idx, Ir.v_idxL, Ir.v_slice, Ir.v_strOf, Ir.v_join, Ir.v_extend, Ir.v_append, Ir.v_len, Ir.v_isi, Ir.v_toInt, Ir.v_all, Ir.v_tupOf, Ir.v_dictOf, Ir.v_dlit, Ir.v_dget3, Ir.v_eqL, Ir.v_op1, Ir.v_op2, Ir.v_fstr, Ir.f_nil, Ir.f_cons, Ir.a_nil', Ir.a_cons', Ir.a_star', Ir.l_disp', Ir.l_of', Ir.l_cat', Ir.l_cut', Ir.b_no', Ir.b_at', Ir.i_tup', Ir.i_lst', Ir.i_str', Ir.i_rng', Ir.ss_nil', Ir.ss_asg, Ir.ss_expr, Ir.ss_ret, Ir.ss_unp, Ir.ss_ite, Ir.ss_setI, Ir.ss_for, Ir.finA_p, Ir.strD_str, Ir.ofD_tup, Ir.dicAt_eq, Ir.lstAt_eq, Ir.dget3_str, Ir.dixD_int, Ir.srcLst_eq, Ir.ofD_ref, Ir.tupD_ref, Ir.lenD_ref, Ir.lenD_tup, Ir.getI_ref, Ir.lsA_lst, Ir.ifA_t, Ir.appD_eq, Ir.extD_eq, Ir.catD_eq, Ir.rb_p, decide_true, decide_false, Bool.true_and, Bool.and_true, Ir.atA_no, Ir.atA_go, Ir.contA_next, Ir.contA_ret, Ir.size_fix, Ir.size_dyn, Ir.at_fix, Ir.at_dyn, Ir.turn_one, List.length_map, List.getElem?_nil, Ir.tgt, Ir.setAll, Bool.false_eq_true, List.set_nil, List.getElem?_cons_zero, List.getElem?_cons_succ, List.set_cons_zero, List.set_cons_succ, List.map_cons, List.map_nil, List.length_cons, List.length_nil, List.replicate_succ, List.replicate_zero, List.cons_append, List.nil_append, Option.map_some, Option.bind_some, Ir.app_get, Ir.app_get0, Ir.app_set, Ir.app_set0, Ir.app_take, Ir.app_one, Ir.len_app, Nat.reduceAdd, Nat.reduceSub, Nat.reduceLeDiff, if_true, if_false, i1, i2, lc, alloc_f, plain_f]
      rfl
    | any => rw [← same _ rfl True.intro]; exact fin (.inr ⟨i1, i2⟩)
    | num => rw [← same _ rfl True.intro]; exact fin (.inr ⟨i1, i2⟩)
  | any => rw [← same _ rfl (by cases o <;> exact True.intro)]; exact fin (.inl i1)
  | num => rw [← same _ rfl (by cases o <;> exact True.intro)]; exact fin (.inl i1)
theorem sub_filter : ∀ {zs B : List Str}, B.Nodup → zs.Sublist B → zs = B.filter fun z => decide (z ∈ zs)
  | _, _, _, .slnil => rfl
  | zs, b :: B, nd, .cons _ h => by
    obtain ⟨h1, h2⟩ := List.nodup_cons.mp nd
    have hb : b ∉ zs := fun z => h1 (h.subset z)
    rw [List.filter_cons_of_neg (by simpa using hb)]
    exact sub_filter h2 h
  | b :: zs, _ :: B, nd, .cons_cons _ h => by
    obtain ⟨h1, h2⟩ := List.nodup_cons.mp nd
    rw [List.filter_cons_of_pos (by simp)]
    congr 1
    rw [show (B.filter fun z => decide (z ∈ b :: zs)) = B.filter fun z => decide (z ∈ zs) from List.filter_congr fun z hz => by
      have : z ≠ b := fun e => h1 (e ▸ hz)
      simp [this]]
    exact sub_filter h2 h
theorem cop_gt (S : Sto) (i j : Int) : cop S .gt (.p (.int i)) (.p (.int j)) = some (decide (j < i)) := rfl
theorem cop_lt (S : Sto) (i j : Int) : cop S .lt (.p (.int i)) (.p (.int j)) = some (decide (i < j)) := rfl
theorem mark_ok (k : Nat) {B : List Str} {R S : Sto} {N : Int} {j : Nat} (hI : dInv N R S) (hN : N ≤ 1000000) (hj : R[j]? = some (.lst (B.map fz))) (hB : B.length ≤ 1000) (nd : B.Nodup) (ly : ∀ z ∈ B, Ly z) :
    ∃ (m : Mk) (S' : Sto), calK fs (k + 2) 5 [.ref 1, .ref (j + 2)] S = .val (.p m.py) S' ∧ m.Ok B ∧ m.Sh ∧ dInv (N + 2000) R S' := by
  have hl := dInv_len hI
  obtain ⟨r, S1, d1, d2, d3, I1⟩ := draw_ok k hI (many := 5) (by omega) (by omega) (by omega)
  rw [q5, callA S rfl, hl]
  unfold b5
  have two : (2 : Nat) ≤ 100000 := by omega
  by_cases h : r < 2
  · have hd : decide (r < 2) = true := decide_eq_true h
    have t1 : S1.take (R.length + 2) = S1 := dInv_take' I1
    rcases (show r = 0 ∨ r = 1 by omega) with e | e
    · subst e
      refine ⟨.any, S1, ?_, True.intro, True.intro, dInv_mono I1 (by omega)⟩
      simp -dsimp only [Ir.then_val, Ir.optA_some, Ir.boolA_t, Ir.boolA_f, Ir.seqA_next, Ir.seqA_ret, Ir.wp_val_, Ir.v_var, Ir.v_cst, Ir.v_bin, Ir.v_cmp, Ir.v_chain, Ir.v_and, Ir.v_or, Ir.v_not, Ir.v_ifx, Ir.v_neg, Ir.v_call, Ir.v_tup, Ir.v_lst, Ir.v_idx, Ir.v_idxL, Ir.v_slice, Ir.v_strOf, Ir.v_join, Ir.v_extend, Ir.v_append, Ir.v_len, Ir.v_isi, Ir.v_toInt, Ir.v_all, Ir.v_tupOf, Ir.v_dictOf, Ir.v_dlit, Ir.v_dget3, Ir.v_eqL, Ir.v_op1, Ir.v_op2, Ir.v_fstr, Ir.f_nil, Ir.f_cons, Ir.a_nil', Ir.a_cons', Ir.a_star', Ir.l_disp', Ir.l_of', Ir.l_cat', Ir.l_cut', Ir.b_no', Ir.b_at', Ir.i_tup', Ir.i_lst', Ir.i_str', Ir.i_rng', Ir.ss_nil', Ir.ss_asg, Ir.ss_expr, Ir.ss_ret, Ir.ss_unp, Ir.ss_ite, Ir.ss_setI, Ir.ss_for, Ir.finA_p, Ir.strD_str, Ir.ofD_tup, Ir.dicAt_eq, Ir.lstAt_eq, Ir.dget3_str, Ir.dixD_int, Ir.srcLst_eq, Ir.ofD_ref, Ir.tupD_ref, Ir.lenD_ref, Ir.lenD_tup, Ir.getI_ref, Ir.lsA_lst, Ir.ifA_t, Ir.appD_eq, Ir.extD_eq, Ir.catD_eq, Ir.rb_p, decide_true, decide_false, Bool.true_and, Bool.and_true, Ir.atA_no, Ir.atA_go, Ir.contA_next, Ir.contA_ret, Ir.size_fix, Ir.size_dyn, Ir.at_fix, Ir.at_dyn, Ir.turn_one, List.length_map, List.getElem?_nil, Ir.tgt, Ir.setAll, Bool.false_eq_true, List.set_nil, List.getElem?_cons_zero, List.getElem?_cons_succ, List.set_cons_zero, List.set_cons_succ, List.map_cons, List.map_nil, List.length_cons, List.length_nil, List.replicate_succ, List.replicate_zero, List.cons_append, List.nil_append, Option.map_some, Option.bind_some, Ir.app_get, Ir.app_get0, Ir.app_set, Ir.app_set0, Ir.app_take, Ir.app_one, Ir.len_app, Nat.reduceAdd, Nat.reduceSub, Nat.reduceLeDiff, if_true, if_false, d1, cop_lt, hd, two, asInt_i, at0]
      simp -dsimp only [Ir.then_val, Ir.optA_some, Ir.boolA_t, Ir.boolA_f, Ir.seqA_next, Ir.seqA_ret, Ir.wp_val_, Ir.v_var, Ir.v_cst, Ir.v_bin, Ir.v_cmp, Ir.v_chain, Ir.v_and, Ir.v_or, Ir.v_not, Ir.v_ifx, Ir.v_neg, Ir.v_call, Ir.v_tup, Ir.v_lst, Ir.v_idx, Ir.v_idxL, Ir.v_slice, Ir.v_strOf, Ir.v_join, Ir.v_extend, Ir.v_append, Ir.v_len, Ir.v_isi, Ir.v_toInt, Ir.v_all, Ir.v_tupOf, Ir.v_dictOf, Ir.v_dlit, Ir.v_dget3, Ir.v_eqL, Ir.v_op1, Ir.v_op2, Ir.v_fstr, Ir.f_nil, Ir.f_cons, Ir.a_nil', Ir.a_cons', Ir.a_star', Ir.l_disp', Ir.l_of', Ir.l_cat', Ir.l_cut', Ir.b_no', Ir.b_at', Ir.i_tup', Ir.i_lst', Ir.i_str', Ir.i_rng', Ir.ss_nil', Ir.ss_asg, Ir.ss_expr, Ir.ss_ret, Ir.ss_unp, Ir.ss_ite, Ir.ss_setI, Ir.ss_for, Ir.finA_p, Ir.strD_str, Ir.ofD_tup, Ir.dicAt_eq, Ir.lstAt_eq, Ir.dget3_str, Ir.dixD_int, Ir.srcLst_eq, Ir.ofD_ref, Ir.tupD_ref, Ir.lenD_ref, Ir.lenD_tup, Ir.getI_ref, Ir.lsA_lst, Ir.ifA_t, Ir.appD_eq, Ir.extD_eq, Ir.catD_eq, Ir.rb_p, decide_true, decide_false, Bool.true_and, Bool.and_true, Ir.atA_no, Ir.atA_go, Ir.contA_next, Ir.contA_ret, Ir.size_fix, Ir.size_dyn, Ir.at_fix, Ir.at_dyn, Ir.turn_one, List.length_map, List.getElem?_nil, Ir.tgt, Ir.setAll, Bool.false_eq_true, List.set_nil, List.getElem?_cons_zero, List.getElem?_cons_succ, List.set_cons_zero, List.set_cons_succ, List.map_cons, List.map_nil, List.length_cons, List.length_nil, List.replicate_succ, List.replicate_zero, List.cons_append, List.nil_append, Option.map_some, Option.bind_some, Ir.app_get, Ir.app_get0, Ir.app_set, Ir.app_set0, Ir.app_take, Ir.app_one, Ir.len_app, Nat.reduceAdd, Nat.reduceSub, Nat.reduceLeDiff, if_true, if_false, t1]
      rfl
    · subst e
      refine ⟨.num, S1, ?_, True.intro, True.intro, dInv_mono I1 (by omega)⟩
      simp -dsimp only [Ir.then_val, Ir.optA_some, Ir.boolA_t, Ir.boolA_f, Ir.seqA_next, Ir.seqA_ret, Ir.wp_val_, Ir.v_var, Ir.v_cst, Ir.v_bin, Ir.v_cmp, Ir.v_chain, Ir.v_and, Ir.v_or, Ir.v_not, Ir.v_ifx, Ir.v_neg, Ir.v_call, Ir.v_tup, Ir.v_lst, Ir.v_idx, Ir.v_idxL, Ir.v_slice, Ir.v_strOf, Ir.v_join, Ir.v_extend, Ir.v_append, Ir.v_len, Ir.v_isi, Ir.v_toInt, Ir.v_all, Ir.v_tupOf, Ir.v_dictOf, Ir.v_dlit, Ir.v_dget3, Ir.v_eqL, Ir.v_op1, Ir.v_op2, Ir.v_fstr, Ir.f_nil, Ir.f_cons, Ir.a_nil', Ir.a_cons', Ir.a_star', Ir.l_disp', Ir.l_of', Ir.l_cat', Ir.l_cut', Ir.b_no', Ir.b_at', Ir.i_tup', Ir.i_lst', Ir.i_str', Ir.i_rng', Ir.ss_nil', Ir.ss_asg, Ir.ss_expr, Ir.ss_ret, Ir.ss_unp, Ir.ss_ite, Ir.ss_setI, Ir.ss_for, Ir.finA_p, Ir.strD_str, Ir.ofD_tup, Ir.dicAt_eq, Ir.lstAt_eq, Ir.dget3_str, Ir.dixD_int, Ir.srcLst_eq, Ir.ofD_ref, Ir.tupD_ref, Ir.lenD_ref, Ir.lenD_tup, Ir.getI_ref, Ir.lsA_lst, Ir.ifA_t, Ir.appD_eq, Ir.extD_eq, Ir.catD_eq, Ir.rb_p, decide_true, decide_false, Bool.true_and, Bool.and_true, Ir.atA_no, Ir.atA_go, Ir.contA_next, Ir.contA_ret, Ir.size_fix, Ir.size_dyn, Ir.at_fix, Ir.at_dyn, Ir.turn_one, List.length_map, List.getElem?_nil, Ir.tgt, Ir.setAll, Bool.false_eq_true, List.set_nil, List.getElem?_cons_zero, List.getElem?_cons_succ, List.set_cons_zero, List.set_cons_succ, List.map_cons, List.map_nil, List.length_cons, List.length_nil, List.replicate_succ, List.replicate_zero, List.cons_append, List.nil_append, Option.map_some, Option.bind_some, Ir.app_get, Ir.app_get0, Ir.app_set, Ir.app_set0, Ir.app_take, Ir.app_one, Ir.len_app, Nat.reduceAdd, Nat.reduceSub, Nat.reduceLeDiff, if_true, if_false, d1, cop_lt, hd, two, asInt_i, at1]
      simp -dsimp only [Ir.then_val, Ir.optA_some, Ir.boolA_t, Ir.boolA_f, Ir.seqA_next, Ir.seqA_ret, Ir.wp_val_, Ir.v_var, Ir.v_cst, Ir.v_bin, Ir.v_cmp, Ir.v_chain, Ir.v_and, Ir.v_or, Ir.v_not, Ir.v_ifx, Ir.v_neg, Ir.v_call, Ir.v_tup, Ir.v_lst, Ir.v_idx, Ir.v_idxL, Ir.v_slice, Ir.v_strOf, Ir.v_join, Ir.v_extend, Ir.v_append, Ir.v_len, Ir.v_isi, Ir.v_toInt, Ir.v_all, Ir.v_tupOf, Ir.v_dictOf, Ir.v_dlit, Ir.v_dget3, Ir.v_eqL, Ir.v_op1, Ir.v_op2, Ir.v_fstr, Ir.f_nil, Ir.f_cons, Ir.a_nil', Ir.a_cons', Ir.a_star', Ir.l_disp', Ir.l_of', Ir.l_cat', Ir.l_cut', Ir.b_no', Ir.b_at', Ir.i_tup', Ir.i_lst', Ir.i_str', Ir.i_rng', Ir.ss_nil', Ir.ss_asg, Ir.ss_expr, Ir.ss_ret, Ir.ss_unp, Ir.ss_ite, Ir.ss_setI, Ir.ss_for, Ir.finA_p, Ir.strD_str, Ir.ofD_tup, Ir.dicAt_eq, Ir.lstAt_eq, Ir.dget3_str, Ir.dixD_int, Ir.srcLst_eq, Ir.ofD_ref, Ir.tupD_ref, Ir.lenD_ref, Ir.lenD_tup, Ir.getI_ref, Ir.lsA_lst, Ir.ifA_t, Ir.appD_eq, Ir.extD_eq, Ir.catD_eq, Ir.rb_p, decide_true, decide_false, Bool.true_and, Bool.and_true, Ir.atA_no, Ir.atA_go, Ir.contA_next, Ir.contA_ret, Ir.size_fix, Ir.size_dyn, Ir.at_fix, Ir.at_dyn, Ir.turn_one, List.length_map, List.getElem?_nil, Ir.tgt, Ir.setAll, Bool.false_eq_true, List.set_nil, List.getElem?_cons_zero, List.getElem?_cons_succ, List.set_cons_zero, List.set_cons_succ, List.map_cons, List.map_nil, List.length_cons, List.length_nil, List.replicate_succ, List.replicate_zero, List.cons_append, List.nil_append, Option.map_some, Option.bind_some, Ir.app_get, Ir.app_get0, Ir.app_set, Ir.app_set0, Ir.app_take, Ir.app_one, Ir.len_app, Nat.reduceAdd, Nat.reduceSub, Nat.reduceLeDiff, if_true, if_false, t1]
      rfl
  · have hd : decide (r < 2) = false := decide_eq_false h
    have hj1 : S1[j + 2]? = some (.lst (B.map fz)) := (dInv_get I1 j).trans hj
    have sl : srcLst S1 (.ref (j + 2)) = some (.dyn (j + 2)) := by rw [srcLst_eq, hj1]
    obtain ⟨es, S2, e1, sub, I2⟩ := lcf_sub (src := .dyn (j + 2)) (ds := B.map fz) (body := lcfB (calK fs (k + 1)) [3] true (.cmp .gt (.call 2 (.cons (.var 0) (.cons (.cst (.p (.int 3))) .nil))) (.cst (.p (.int 0)))) (.var 3) [some (.ref 1), some (.ref (j + 2)), some (.p (.int r)), none])
      (fun i S => dInv (N + 1 + i) R S) (fun i S q => dyn_at ((dInv_get q j).trans hj) i) (fun i d S hd q => by
        have hi := (List.getElem?_eq_some_iff.mp hd).1
        rw [List.length_map] at hi
        obtain ⟨r2, S3, g1, g2, g3, I3⟩ := draw_ok k q (many := 3) (by omega) (by omega) (by omega)
        refine ⟨decide (0 < r2), S3, lcfB_ok (S1 := S3) (z := d) rfl ?_ ?_ ?_, by
          have e : N + 1 + ((i + 1 : Nat) : Int) = N + 1 + i + 1 := by omega
          rw [e]; exact I3⟩
        · simp -dsimp only [Ir.then_val, Ir.optA_some, Ir.boolA_t, Ir.boolA_f, Ir.seqA_next, Ir.seqA_ret, Ir.wp_val_, Ir.v_var, Ir.v_cst, Ir.v_bin, Ir.v_cmp, Ir.v_chain, Ir.v_and, Ir.v_or, Ir.v_not, Ir.v_ifx, Ir.v_neg, Ir.v_call, Ir.v_tup, Ir.v_lst, Ir.v_idx, Ir.v_idxL, Ir.v_slice, Ir.v_strOf, Ir.v_join, Ir.v_extend, Ir.v_append, Ir.v_len, Ir.v_isi, Ir.v_toInt, Ir.v_all, Ir.v_tupOf, Ir.v_dictOf, Ir.v_dlit, Ir.v_dget3, Ir.v_eqL, Ir.v_op1, Ir.v_op2, Ir.v_fstr, Ir.f_nil, Ir.f_cons, Ir.a_nil', Ir.a_cons', Ir.a_star', Ir.l_disp', Ir.l_of', Ir.l_cat', Ir.l_cut', Ir.b_no', Ir.b_at', Ir.i_tup', Ir.i_lst', Ir.i_str', Ir.i_rng', Ir.ss_nil', Ir.ss_asg, Ir.ss_expr, Ir.ss_ret, Ir.ss_unp, Ir.ss_ite, Ir.ss_setI, Ir.ss_for, Ir.finA_p, Ir.strD_str, Ir.ofD_tup, Ir.dicAt_eq, Ir.lstAt_eq, Ir.dget3_str, Ir.dixD_int, Ir.srcLst_eq, Ir.ofD_ref, Ir.tupD_ref, Ir.lenD_ref, Ir.lenD_tup, Ir.getI_ref, Ir.lsA_lst, Ir.ifA_t, Ir.appD_eq, Ir.extD_eq, Ir.catD_eq, Ir.rb_p, decide_true, decide_false, Bool.true_and, Bool.and_true, Ir.atA_no, Ir.atA_go, Ir.contA_next, Ir.contA_ret, Ir.size_fix, Ir.size_dyn, Ir.at_fix, Ir.at_dyn, Ir.turn_one, List.length_map, List.getElem?_nil, Ir.tgt, Ir.setAll, Bool.false_eq_true, List.set_nil, List.getElem?_cons_zero, List.getElem?_cons_succ, List.set_cons_zero, List.set_cons_succ, List.map_cons, List.map_nil, List.length_cons, List.length_nil, List.replicate_succ, List.replicate_zero, List.cons_append, List.nil_append, Option.map_some, Option.bind_some, Ir.app_get, Ir.app_get0, Ir.app_set, Ir.app_set0, Ir.app_take, Ir.app_one, Ir.len_app, Nat.reduceAdd, Nat.reduceSub, Nat.reduceLeDiff, if_true, if_false, wipeD, g1, cop_gt]
        · intro _; simp -dsimp only [Ir.then_val, Ir.optA_some, Ir.boolA_t, Ir.boolA_f, Ir.seqA_next, Ir.seqA_ret, Ir.wp_val_, Ir.v_var, Ir.v_cst, Ir.v_bin, Ir.v_cmp, Ir.v_chain, Ir.v_and, Ir.v_or, Ir.v_not, Ir.v_ifx, Ir.v_neg, Ir.v_call, Ir.v_tup, Ir.v_lst, Ir.v_idx, Ir.v_idxL, Ir.v_slice, Ir.v_strOf, Ir.v_join, Ir.v_extend, Ir.v_append, Ir.v_len, Ir.v_isi, Ir.v_toInt, Ir.v_all, Ir.v_tupOf, Ir.v_dictOf, Ir.v_dlit, Ir.v_dget3, Ir.v_eqL, Ir.v_op1, Ir.v_op2, Ir.v_fstr, Ir.f_nil, Ir.f_cons, Ir.a_nil', Ir.a_cons', Ir.a_star', Ir.l_disp', Ir.l_of', Ir.l_cat', Ir.l_cut', Ir.b_no', Ir.b_at', Ir.i_tup', Ir.i_lst', Ir.i_str', Ir.i_rng', Ir.ss_nil', Ir.ss_asg, Ir.ss_expr, Ir.ss_ret, Ir.ss_unp, Ir.ss_ite, Ir.ss_setI, Ir.ss_for, Ir.finA_p, Ir.strD_str, Ir.ofD_tup, Ir.dicAt_eq, Ir.lstAt_eq, Ir.dget3_str, Ir.dixD_int, Ir.srcLst_eq, Ir.ofD_ref, Ir.tupD_ref, Ir.lenD_ref, Ir.lenD_tup, Ir.getI_ref, Ir.lsA_lst, Ir.ifA_t, Ir.appD_eq, Ir.extD_eq, Ir.catD_eq, Ir.rb_p, decide_true, decide_false, Bool.true_and, Bool.and_true, Ir.atA_no, Ir.atA_go, Ir.contA_next, Ir.contA_ret, Ir.size_fix, Ir.size_dyn, Ir.at_fix, Ir.at_dyn, Ir.turn_one, List.length_map, List.getElem?_nil, Ir.tgt, Ir.setAll, Bool.false_eq_true, List.set_nil, List.getElem?_cons_zero, List.getElem?_cons_succ, List.set_cons_zero, List.set_cons_succ, List.map_cons, List.map_nil, List.length_cons, List.length_nil, List.replicate_succ, List.replicate_zero, List.cons_append, List.nil_append, Option.map_some, Option.bind_some, Ir.app_get, Ir.app_get0, Ir.app_set, Ir.app_set0, Ir.app_take, Ir.app_one, Ir.len_app, Nat.reduceAdd, Nat.reduceSub, Nat.reduceLeDiff, if_true, if_false, wipeD]
        · exact fun _ => rfl) B.length 0 [] S1 (by rw [List.length_map]; omega) (by simpa using I1)
    rw [List.drop_zero] at sub
    obtain ⟨zs, sub2, ez⟩ := List.sublist_map_iff.mp sub
    subst ez
    rw [List.length_map] at I2
    have lc : evL (calK fs (k + 1)) (.lcf (.lst (.var 1)) [3] true (.cmp .gt (.call 2 (.cons (.var 0) (.cons (.cst (.p (.int 3))) .nil))) (.cst (.p (.int 0)))) (.var 3)) [some (.ref 1), some (.ref (j + 2)), some (.p (.int r)), none] S1 = .val (zs.map fz) S2 := by
      rw [lcf_at (src := .dyn (j + 2)) (S1 := S1) (n := B.length) (by simp -dsimp only [Ir.then_val, Ir.optA_some, Ir.boolA_t, Ir.boolA_f, Ir.seqA_next, Ir.seqA_ret, Ir.wp_val_, Ir.v_var, Ir.v_cst, Ir.v_bin, Ir.v_cmp, Ir.v_chain, Ir.v_and, Ir.v_or, Ir.v_not, Ir.v_ifx, Ir.v_neg, Ir.v_call, Ir.v_tup, Ir.v_lst, Ir.v_idx, Ir.v_idxL, Ir.v_slice, Ir.v_strOf, Ir.v_join, Ir.v_extend, Ir.v_append, Ir.v_len, Ir.v_isi, Ir.v_toInt, Ir.v_all, Ir.v_tupOf, Ir.v_dictOf, Ir.v_dlit, Ir.v_dget3, Ir.v_eqL, Ir.v_op1, Ir.v_op2, Ir.v_fstr, Ir.f_nil, Ir.f_cons, Ir.a_nil', Ir.a_cons', Ir.a_star', Ir.l_disp', Ir.l_of', Ir.l_cat', Ir.l_cut', Ir.b_no', Ir.b_at', Ir.i_tup', Ir.i_lst', Ir.i_str', Ir.i_rng', Ir.ss_nil', Ir.ss_asg, Ir.ss_expr, Ir.ss_ret, Ir.ss_unp, Ir.ss_ite, Ir.ss_setI, Ir.ss_for, Ir.finA_p, Ir.strD_str, Ir.ofD_tup, Ir.dicAt_eq, Ir.lstAt_eq, Ir.dget3_str, Ir.dixD_int, Ir.srcLst_eq, Ir.ofD_ref, Ir.tupD_ref, Ir.lenD_ref, Ir.lenD_tup, Ir.getI_ref, Ir.lsA_lst, Ir.ifA_t, Ir.appD_eq, Ir.extD_eq, Ir.catD_eq, Ir.rb_p, decide_true, decide_false, Bool.true_and, Bool.and_true, Ir.atA_no, Ir.atA_go, Ir.contA_next, Ir.contA_ret, Ir.size_fix, Ir.size_dyn, Ir.at_fix, Ir.at_dyn, Ir.turn_one, List.length_map, List.getElem?_nil, Ir.tgt, Ir.setAll, Bool.false_eq_true, List.set_nil, List.getElem?_cons_zero, List.getElem?_cons_succ, List.set_cons_zero, List.set_cons_succ, List.map_cons, List.map_nil, List.length_cons, List.length_nil, List.replicate_succ, List.replicate_zero, List.cons_append, List.nil_append, Option.map_some, Option.bind_some, Ir.app_get, Ir.app_get0, Ir.app_set, Ir.app_set0, Ir.app_take, Ir.app_one, Ir.len_app, Nat.reduceAdd, Nat.reduceSub, Nat.reduceLeDiff, if_true, if_false, sl]) (by rw [size_dyn, hj1]; simp) (by omega), e1]
      rfl
    have hl2 := dInv_len I2
    have t2 : (S2 ++ [MO.lst (zs.map fz)]).take (R.length + 2) = S2 := by rw [← hl2]; exact app_take _ _
    refine ⟨.tup zs, S2, ?_, ⟨fun z hz => ly z (sub2.subset hz), sub_filter nd sub2⟩, Nat.le_trans sub2.length_le hB, dInv_mono I2 (by omega)⟩
    simp -dsimp only [Ir.then_val, Ir.optA_some, Ir.boolA_t, Ir.boolA_f, Ir.seqA_next, Ir.seqA_ret, Ir.wp_val_, Ir.v_var, Ir.v_cst, Ir.v_bin, Ir.v_cmp, Ir.v_chain, Ir.v_and, Ir.v_or, Ir.v_not, Ir.v_ifx, Ir.v_neg, Ir.v_call, Ir.v_tup, Ir.v_lst, Ir.v_idx, Ir.v_idxL, Ir.v_slice, Ir.v_strOf, Ir.v_join, Ir.v_extend, Ir.v_append, Ir.v_len, Ir.v_isi, Ir.v_toInt, Ir.v_all, Ir.v_tupOf, Ir.v_dictOf, Ir.v_dlit, Ir.v_dget3, Ir.v_eqL, Ir.v_op1, Ir.v_op2, Ir.v_fstr, Ir.f_nil, Ir.f_cons, Ir.a_nil', Ir.a_cons', Ir.a_star', Ir.l_disp', Ir.l_of', Ir.l_cat', Ir.l_cut', Ir.b_no', Ir.b_at', Ir.i_tup', Ir.i_lst', Ir.i_str', Ir.i_rng', Ir.ss_nil', Ir.ss_asg, Ir.ss_expr, Ir.ss_ret, Ir.ss_unp, Ir.ss_ite, Ir.ss_setI, Ir.ss_for, Ir.finA_p, Ir.strD_str, Ir.ofD_tup, Ir.dicAt_eq, Ir.lstAt_eq, Ir.dget3_str, Ir.dixD_int, Ir.srcLst_eq, Ir.ofD_ref, Ir.tupD_ref, Ir.lenD_ref, Ir.lenD_tup, Ir.getI_ref, Ir.lsA_lst, Ir.ifA_t, Ir.appD_eq, Ir.extD_eq, Ir.catD_eq, Ir.rb_p, decide_true, decide_false, Bool.true_and, Bool.and_true, Ir.atA_no, Ir.atA_go, Ir.contA_next, Ir.contA_ret, Ir.size_fix, Ir.size_dyn, Ir.at_fix, Ir.at_dyn, Ir.turn_one, List.length_map, List.getElem?_nil, Ir.tgt, Ir.setAll, Bool.false_eq_true, List.set_nil, List.getElem?_cons_zero, List.getElem?_cons_succ, List.set_cons_zero, List.set_cons_succ, List.map_cons, List.map_nil, List.length_cons, List.length_nil, List.replicate_succ, List.replicate_zero, List.cons_append, List.nil_append, Option.map_some, Option.bind_some, Ir.app_get, Ir.app_get0, Ir.app_set, Ir.app_set0, Ir.app_take, Ir.app_one, Ir.len_app, Nat.reduceAdd, Nat.reduceSub, Nat.reduceLeDiff, if_true, if_false, d1, cop_lt, hd, lc, alloc_f, plain_f]
    simp -dsimp only [Ir.then_val, Ir.optA_some, Ir.boolA_t, Ir.boolA_f, Ir.seqA_next, Ir.seqA_ret, Ir.wp_val_, Ir.v_var, Ir.v_cst, Ir.v_bin, Ir.v_cmp, Ir.v_chain, Ir.v_and, Ir.v_or, Ir.v_not, Ir.v_ifx, Ir.v_neg, Ir.v_call, Ir.v_tup, Ir.v_lst, Ir.v_idx, Ir.v_idxL, Ir.v_slice, Ir.v_strOf, Ir.v_join, Ir.v_extend, Ir.v_append, Ir.v_len, Ir.v_isi, Ir.v_toInt, Ir.v_all, Ir.v_tupOf, Ir.v_dictOf, Ir.v_dlit, Ir.v_dget3, Ir.v_eqL, Ir.v_op1, Ir.v_op2, Ir.v_fstr, Ir.f_nil, Ir.f_cons, Ir.a_nil', Ir.a_cons', Ir.a_star', Ir.l_disp', Ir.l_of', Ir.l_cat', Ir.l_cut', Ir.b_no', Ir.b_at', Ir.i_tup', Ir.i_lst', Ir.i_str', Ir.i_rng', Ir.ss_nil', Ir.ss_asg, Ir.ss_expr, Ir.ss_ret, Ir.ss_unp, Ir.ss_ite, Ir.ss_setI, Ir.ss_for, Ir.finA_p, Ir.strD_str, Ir.ofD_tup, Ir.dicAt_eq, Ir.lstAt_eq, Ir.dget3_str, Ir.dixD_int, Ir.srcLst_eq, Ir.ofD_ref, Ir.tupD_ref, Ir.lenD_ref, Ir.lenD_tup, Ir.getI_ref, Ir.lsA_lst, Ir.ifA_t, Ir.appD_eq, Ir.extD_eq, Ir.catD_eq, Ir.rb_p, decide_true, decide_false, Bool.true_and, Bool.and_true, Ir.atA_no, Ir.atA_go, Ir.contA_next, Ir.contA_ret, Ir.size_fix, Ir.size_dyn, Ir.at_fix, Ir.at_dyn, Ir.turn_one, List.length_map, List.getElem?_nil, Ir.tgt, Ir.setAll, Bool.false_eq_true, List.set_nil, List.getElem?_cons_zero, List.getElem?_cons_succ, List.set_cons_zero, List.set_cons_succ, List.map_cons, List.map_nil, List.length_cons, List.length_nil, List.replicate_succ, List.replicate_zero, List.cons_append, List.nil_append, Option.map_some, Option.bind_some, Ir.app_get, Ir.app_get0, Ir.app_set, Ir.app_set0, Ir.app_take, Ir.app_one, Ir.len_app, Nat.reduceAdd, Nat.reduceSub, Nat.reduceLeDiff, if_true, if_false, t2]
    rfl
end Ir.K26
set_option Elab.async false
set_option linter.all false
set_option maxRecDepth 100000
set_option maxHeartbeats 4000001
namespace Ir.K26
open PySem
theorem com_ok {B : List Str} {m o : Mk} (hm : m.Ok B) (ho : o.Ok B) : (comM m o).Ok B := by
  cases m <;> cases o <;> first | exact True.intro | skip
  rename_i zs ws
  refine ⟨fun z hz => hm.ly z (List.mem_filter.mp hz).1, ?_⟩
  have e : zs.filter (fun z => decide (z ∈ ws)) = B.filter fun z => decide (z ∈ zs) && decide (z ∈ ws) := by
    conv => lhs; rw [hm.of, List.filter_filter]
    exact List.filter_congr fun z _ => Bool.and_comm ..
  conv => lhs; rw [e]
  refine List.filter_congr fun z hz => ?_
  by_cases h1 : z ∈ zs <;> by_cases h2 : z ∈ ws <;> simp [h1, h2]
theorem com_sh {m o : Mk} (hm : m.Sh) : (comM m o).Sh := by
  cases m <;> cases o <;> first | exact True.intro | skip
  exact Nat.le_trans (List.length_filter_le ..) hm
theorem com_symm {B : List Str} {m o : Mk} (hm : m.Ok B) (ho : o.Ok B) : comM m o = comM o m := by
  cases m <;> cases o <;> first | rfl | skip
  rename_i zs ws
  show Mk.tup _ = Mk.tup _
  congr 1
  have e1 : zs.filter (fun z => decide (z ∈ ws)) = B.filter fun z => decide (z ∈ zs) && decide (z ∈ ws) := by
    conv => lhs; rw [hm.of, List.filter_filter]
    exact List.filter_congr fun z _ => Bool.and_comm ..
  have e2 : ws.filter (fun z => decide (z ∈ zs)) = B.filter fun z => decide (z ∈ zs) && decide (z ∈ ws) := by
    conv => lhs; rw [ho.of, List.filter_filter]
  rw [e1, e2]
theorem com_assoc (a b c : Mk) : comM (comM a b) c = comM a (comM b c) := by
  cases a <;> cases b <;> cases c <;> first | rfl | skip
  rename_i xs ys zs
  show Mk.tup _ = Mk.tup _
  congr 1
  show (xs.filter _).filter _ = xs.filter _
  rw [List.filter_filter]
  refine List.filter_congr fun z hz => ?_
  by_cases h1 : z ∈ ys <;> by_cases h2 : z ∈ zs <;> simp [h1, h2]
theorem cov_l (m o : Mk) : covM (comM m o) m = true := by
  cases m <;> cases o <;> first | rfl | skip
  exact List.all_eq_true.mpr fun z hz => decide_eq_true (List.mem_filter.mp hz).1
theorem cov_r (m o : Mk) : covM (comM m o) o = true := by
  cases m <;> cases o <;> first | rfl | skip
  exact List.all_eq_true.mpr fun z hz => (List.mem_filter.mp hz).2
theorem cov_up {u m o : Mk} (h1 : covM u m = true) (h2 : covM u o = true) : covM u (comM m o) = true := by
  cases u <;> cases m <;> cases o <;> first | rfl | (exact absurd h1 Bool.false_ne_true) | (exact absurd h2 Bool.false_ne_true) | skip
  refine List.all_eq_true.mpr fun z hz => decide_eq_true (List.mem_filter.mpr ⟨?_, ?_⟩)
  · exact of_decide_eq_true (List.all_eq_true.mp h1 z hz)
  · exact List.all_eq_true.mp h2 z hz
theorem eqM_refl (m : Mk) : eqM m m = true := by
  cases m <;> first | rfl | exact decide_eq_true rfl
abbrev fm : Mk → D := fun m => .p m.py
theorem ne_same {B : List Str} {m : Mk} (hm : m.Ok B) (S : Sto) : cop S .ne (.p m.py) (.p m.py) = some false := by
  rw [cop_ne, eq_py hm hm, eqM_refl]
  rfl
theorem ne_bool (b : Bool) (S : Sto) : cop S .ne (.p (.bool b)) (.p (.bool b)) = some false := by cases b <;> rfl
theorem alloc_m (ms : List Mk) (S : Sto) : alloc (.lst (ms.map fm)) S = .val (.ref S.length) (S ++ [.lst (ms.map fm)]) := by
  have h := alloc_plain (ms.map Mk.py) S
  rw [List.map_map] at h
  exact h
theorem boolsM (f : Mk → Bool) : ∀ ms : List Mk, boolsOf (ms.map fun m => D.p (.bool (f m))) = some (ms.map f)
  | [] => rfl
  | m :: ms => by
    show (boolsOf (ms.map fun m => D.p (.bool (f m)))).map (f m :: ·) = _
    rw [boolsM f ms]
    rfl
theorem notK (b : Bool) (S : Sto) : boolA (.p (.bool b)) (.val (D.p (.bool false)) S) (.val (D.p (.bool true)) S) = .val (.p (.bool !b)) S := by cases b <;> rfl
def inner : Ss := (.cons (.asg 7 (.call 1 (.cons (.var 5) (.cons (.var 6) .nil))))
    (.cons (.ite (.or (.cmp .ne (.var 7) (.call 4 (.cons (.var 5) (.cons (.var 6) .nil)))) (.cmp .ne (.isi (.var 7) .str) (.isi (.call 4 (.cons (.var 5) (.cons (.var 6) .nil))) .str))) (.cons (.ret (.cst (.p (.bool false))))
    .nil) .nil)
    (.cons (.ite (.or (.cmp .ne (.var 7) (.call 1 (.cons (.var 6) (.cons (.var 5) .nil)))) (.cmp .ne (.call 0 (.cons (.var 5) (.cons (.var 6) .nil))) (.call 3 (.cons (.var 5) (.cons (.var 6) .nil))))) (.cons (.ret (.cst (.p (.bool false))))
    .nil) .nil)
    (.cons (.asg 8 (.and (.call 0 (.cons (.var 7) (.cons (.var 5) .nil))) (.call 0 (.cons (.var 7) (.cons (.var 6) .nil)))))
    (.cons (.asg 9 (.lst (.lcf (.lst (.var 4)) [12] true (.and (.call 0 (.cons (.var 12) (.cons (.var 5) .nil))) (.call 0 (.cons (.var 12) (.cons (.var 6) .nil)))) (.var 12))))
    (.cons (.ite (.or (.not (.var 8)) (.not (.all (.lc (.lst (.var 9)) [12] true (.call 0 (.cons (.var 12) (.cons (.var 7) .nil))))))) (.cons (.ret (.cst (.p (.bool false))))
    .nil) .nil)
    .nil))))))
theorem inner_ok (k : Nat) {B : List Str} {ms : List Mk} (hok : ∀ m ∈ ms, m.Ok B ∧ m.Sh) (hl : ms.length ≤ 1000) {one other : Mk} (h1 : one ∈ ms) (h2 : other ∈ ms) {S : Sto} (hS : S[4]? = some (.lst (ms.map fm))) (x0 x1 x2 x3 x7 x8 x9 x10 x11 x12 : Option D) :
    ∃ y9 us, exSs (calK fs (k + 1)) inner [x0, x1, x2, x3, some (.ref 4), some (fm one), some (fm other), x7, x8, x9, x10, x11, x12] S =
      .val (.next, [x0, x1, x2, x3, some (.ref 4), some (fm one), some (fm other), some (fm (comM one other)), some (.p (.bool true)), some (.ref S.length), x10, x11, y9]) (S ++ [.lst us]) := by
  obtain ⟨o1, s1⟩ := hok one h1
  obtain ⟨o2, s2⟩ := hok other h2
  have oc := com_ok o1 o2
  have sc := com_sh (o := other) s1
  have c1 := fun S => incommon_ok k o1 o2 s1 S
  have c4 := fun S => lcommon_ok k o1 o2 s1 S
  have c1' := fun S => incommon_ok k o2 o1 s2 S
  rw [com_symm o2 o1] at c1'
  have n1 := fun S => ne_same oc S
  obtain ⟨ib, i1⟩ : ∃ ib, isiD (.p (comM one other).py) .str = some ib := ⟨_, isi_s _⟩
  have nb := fun S => ne_bool ib S
  have v0 := fun S => covers_ok k o1 o2 s1 S
  have v3 := fun S => lcovers_ok k o1 o2 s1 S
  have nv := fun S => ne_bool (covM one other) S
  have b1 := fun S => covers_ok k oc o1 sc S
  have b2 := fun S => covers_ok k oc o2 sc S
  rw [cov_l] at b1
  rw [cov_r] at b2
  let g : Mk → Bool := fun u => covM u one && covM u other
  have sl : srcLst S (.ref 4) = some (.dyn 4) := by rw [srcLst_eq, hS]
  have lc : ∀ y7 y8 y9, evL (calK fs (k + 1)) (.lcf (.lst (.var 4)) [12] true (.and (.call 0 (.cons (.var 12) (.cons (.var 5) .nil))) (.call 0 (.cons (.var 12) (.cons (.var 6) .nil)))) (.var 12)) [x0, x1, x2, x3, some (.ref 4), some (fm one), some (fm other), y7, y8, y9, x10, x11, x12] S = .val ((ms.filter g).map fm) S := fun y7 y8 y9 => by
    rw [lcf_at (src := .dyn 4) (S1 := S) (n := ms.length) (by simp -dsimp only [Ir.then_val, Ir.optA_some, Ir.boolA_t, Ir.boolA_f, Ir.seqA_next, Ir.seqA_ret, Ir.wp_val_, Ir.v_var, Ir.v_cst, Ir.v_bin, Ir.v_cmp, Ir.v_chain, Ir.v_and, Ir.v_or, Ir.v_not, Ir.v_ifx, Ir.v_neg, Ir.v_call, Ir.v_tup, Ir.v_lst, Ir.v_idx, Ir.v_idxL, Ir.v_slice, Ir.v_strOf, Ir.v_join, Ir.v_extend, Ir.v_append, Ir.v_len, Ir.v_isi, Ir.v_toInt, Ir.v_all, Ir.v_tupOf, Ir.v_dictOf, Ir.v_dlit, Ir.v_dget3, Ir.v_eqL, Ir.v_op1, Ir.v_op2, Ir.v_fstr, Ir.f_nil, Ir.f_cons, Ir.a_nil', Ir.a_cons', Ir.a_star', Ir.l_disp', Ir.l_of', Ir.l_cat', Ir.l_cut', Ir.b_no', Ir.b_at', Ir.i_tup', Ir.i_lst', Ir.i_str', Ir.i_rng', Ir.ss_nil', Ir.ss_asg, Ir.ss_expr, Ir.ss_ret, Ir.ss_unp, Ir.ss_ite, Ir.ss_setI, Ir.ss_for, Ir.finA_p, Ir.strD_str, Ir.ofD_tup, Ir.dicAt_eq, Ir.lstAt_eq, Ir.dget3_str, Ir.dixD_int, Ir.srcLst_eq, Ir.ofD_ref, Ir.tupD_ref, Ir.lenD_ref, Ir.lenD_tup, Ir.getI_ref, Ir.lsA_lst, Ir.ifA_t, Ir.appD_eq, Ir.extD_eq, Ir.catD_eq, Ir.rb_p, decide_true, decide_false, Bool.true_and, Bool.and_true, Ir.atA_no, Ir.atA_go, Ir.contA_next, Ir.contA_ret, Ir.size_fix, Ir.size_dyn, Ir.at_fix, Ir.at_dyn, Ir.turn_one, List.length_map, List.getElem?_nil, Ir.tgt, Ir.setAll, Bool.false_eq_true, List.set_nil, List.getElem?_cons_zero, List.getElem?_cons_succ, List.set_cons_zero, List.set_cons_succ, List.map_cons, List.map_nil, List.length_cons, List.length_nil, List.replicate_succ, List.replicate_zero, List.cons_append, List.nil_append, Option.map_some, Option.bind_some, Ir.app_get, Ir.app_get0, Ir.app_set, Ir.app_set0, Ir.app_take, Ir.app_one, Ir.len_app, Nat.reduceAdd, Nat.reduceSub, Nat.reduceLeDiff, if_true, if_false, sl]) (by rw [size_dyn, hS]; simp) (by omega)]
    have key : ∀ d ∈ ms.map fm, ∃ m ∈ ms, d = fm m := fun d hd => by
      obtain ⟨m, hm, rfl⟩ := List.mem_map.mp hd
      exact ⟨m, hm, rfl⟩
    have step : ∀ m ∈ ms, lcfB (calK fs (k + 1)) [12] true (.and (.call 0 (.cons (.var 12) (.cons (.var 5) .nil))) (.call 0 (.cons (.var 12) (.cons (.var 6) .nil)))) (.var 12) [x0, x1, x2, x3, some (.ref 4), some (fm one), some (fm other), y7, y8, y9, x10, x11, x12] (fm m) S = .val (if g m = true then some (fm m) else none) S := fun m hm => by
      obtain ⟨om, sm⟩ := hok m hm
      have u1 := covers_ok k om o1 sm S
      have u2 := covers_ok k om o2 sm S
      refine lcfB_ok (S1 := S) (b := g m) rfl ?_ ?_ fun _ => rfl
      · show evE _ _ _ S = .val (.p (.bool (covM m one && covM m other))) S
        cases q : covM m one with
        | true =>
          rw [q] at u1
          simp -dsimp only [Ir.then_val, Ir.optA_some, Ir.boolA_t, Ir.boolA_f, Ir.seqA_next, Ir.seqA_ret, Ir.wp_val_, Ir.v_var, Ir.v_cst, Ir.v_bin, Ir.v_cmp, Ir.v_chain, Ir.v_and, Ir.v_or, Ir.v_not, Ir.v_ifx, Ir.v_neg, Ir.v_call, Ir.v_tup, Ir.v_lst, Ir.v_idx, Ir.v_idxL, Ir.v_slice, Ir.v_strOf, Ir.v_join, Ir.v_extend, Ir.v_append, Ir.v_len, Ir.v_isi, Ir.v_toInt, Ir.v_all, Ir.v_tupOf, Ir.v_dictOf, Ir.v_dlit, Ir.v_dget3, Ir.v_eqL, Ir.v_op1, Ir.v_op2, Ir.v_fstr, Ir.f_nil, Ir.f_cons, Ir.a_nil', Ir.a_cons', Ir.a_star', Ir.l_disp', Ir.l_of', Ir.l_cat', Ir.l_cut', Ir.b_no', Ir.b_at', Ir.i_tup', Ir.i_lst', Ir.i_str', Ir.i_rng', Ir.ss_nil', Ir.ss_asg, Ir.ss_expr, Ir.ss_ret, Ir.ss_unp, Ir.ss_ite, Ir.ss_setI, Ir.ss_for, Ir.finA_p, Ir.strD_str, Ir.ofD_tup, Ir.dicAt_eq, Ir.lstAt_eq, Ir.dget3_str, Ir.dixD_int, Ir.srcLst_eq, Ir.ofD_ref, Ir.tupD_ref, Ir.lenD_ref, Ir.lenD_tup, Ir.getI_ref, Ir.lsA_lst, Ir.ifA_t, Ir.appD_eq, Ir.extD_eq, Ir.catD_eq, Ir.rb_p, decide_true, decide_false, Bool.true_and, Bool.and_true, Ir.atA_no, Ir.atA_go, Ir.contA_next, Ir.contA_ret, Ir.size_fix, Ir.size_dyn, Ir.at_fix, Ir.at_dyn, Ir.turn_one, List.length_map, List.getElem?_nil, Ir.tgt, Ir.setAll, Bool.false_eq_true, List.set_nil, List.getElem?_cons_zero, List.getElem?_cons_succ, List.set_cons_zero, List.set_cons_succ, List.map_cons, List.map_nil, List.length_cons, List.length_nil, List.replicate_succ, List.replicate_zero, List.cons_append, List.nil_append, Option.map_some, Option.bind_some, Ir.app_get, Ir.app_get0, Ir.app_set, Ir.app_set0, Ir.app_take, Ir.app_one, Ir.len_app, Nat.reduceAdd, Nat.reduceSub, Nat.reduceLeDiff, if_true, if_false, wipeD, u1, u2]
        | false =>
          rw [q] at u1
          simp -dsimp only [Ir.then_val, Ir.optA_some, Ir.boolA_t, Ir.boolA_f, Ir.seqA_next, Ir.seqA_ret, Ir.wp_val_, Ir.v_var, Ir.v_cst, Ir.v_bin, Ir.v_cmp, Ir.v_chain, Ir.v_and, Ir.v_or, Ir.v_not, Ir.v_ifx, Ir.v_neg, Ir.v_call, Ir.v_tup, Ir.v_lst, Ir.v_idx, Ir.v_idxL, Ir.v_slice, Ir.v_strOf, Ir.v_join, Ir.v_extend, Ir.v_append, Ir.v_len, Ir.v_isi, Ir.v_toInt, Ir.v_all, Ir.v_tupOf, Ir.v_dictOf, Ir.v_dlit, Ir.v_dget3, Ir.v_eqL, Ir.v_op1, Ir.v_op2, Ir.v_fstr, Ir.f_nil, Ir.f_cons, Ir.a_nil', Ir.a_cons', Ir.a_star', Ir.l_disp', Ir.l_of', Ir.l_cat', Ir.l_cut', Ir.b_no', Ir.b_at', Ir.i_tup', Ir.i_lst', Ir.i_str', Ir.i_rng', Ir.ss_nil', Ir.ss_asg, Ir.ss_expr, Ir.ss_ret, Ir.ss_unp, Ir.ss_ite, Ir.ss_setI, Ir.ss_for, Ir.finA_p, Ir.strD_str, Ir.ofD_tup, Ir.dicAt_eq, Ir.lstAt_eq, Ir.dget3_str, Ir.dixD_int, Ir.srcLst_eq, Ir.ofD_ref, Ir.tupD_ref, Ir.lenD_ref, Ir.lenD_tup, Ir.getI_ref, Ir.lsA_lst, Ir.ifA_t, Ir.appD_eq, Ir.extD_eq, Ir.catD_eq, Ir.rb_p, decide_true, decide_false, Bool.true_and, Bool.and_true, Ir.atA_no, Ir.atA_go, Ir.contA_next, Ir.contA_ret, Ir.size_fix, Ir.size_dyn, Ir.at_fix, Ir.at_dyn, Ir.turn_one, List.length_map, List.getElem?_nil, Ir.tgt, Ir.setAll, Bool.false_eq_true, List.set_nil, List.getElem?_cons_zero, List.getElem?_cons_succ, List.set_cons_zero, List.set_cons_succ, List.map_cons, List.map_nil, List.length_cons, List.length_nil, List.replicate_succ, List.replicate_zero, List.cons_append, List.nil_append, Option.map_some, Option.bind_some, Ir.app_get, Ir.app_get0, Ir.app_set, Ir.app_set0, Ir.app_take, Ir.app_one, Ir.len_app, Nat.reduceAdd, Nat.reduceSub, Nat.reduceLeDiff, if_true, if_false, wipeD, u1]
          rfl
      · intro _; simp -dsimp only [Ir.then_val, Ir.optA_some, Ir.boolA_t, Ir.boolA_f, Ir.seqA_next, Ir.seqA_ret, Ir.wp_val_, Ir.v_var, Ir.v_cst, Ir.v_bin, Ir.v_cmp, Ir.v_chain, Ir.v_and, Ir.v_or, Ir.v_not, Ir.v_ifx, Ir.v_neg, Ir.v_call, Ir.v_tup, Ir.v_lst, Ir.v_idx, Ir.v_idxL, Ir.v_slice, Ir.v_strOf, Ir.v_join, Ir.v_extend, Ir.v_append, Ir.v_len, Ir.v_isi, Ir.v_toInt, Ir.v_all, Ir.v_tupOf, Ir.v_dictOf, Ir.v_dlit, Ir.v_dget3, Ir.v_eqL, Ir.v_op1, Ir.v_op2, Ir.v_fstr, Ir.f_nil, Ir.f_cons, Ir.a_nil', Ir.a_cons', Ir.a_star', Ir.l_disp', Ir.l_of', Ir.l_cat', Ir.l_cut', Ir.b_no', Ir.b_at', Ir.i_tup', Ir.i_lst', Ir.i_str', Ir.i_rng', Ir.ss_nil', Ir.ss_asg, Ir.ss_expr, Ir.ss_ret, Ir.ss_unp, Ir.ss_ite, Ir.ss_setI, Ir.ss_for, Ir.finA_p, Ir.strD_str, Ir.ofD_tup, Ir.dicAt_eq, Ir.lstAt_eq, Ir.dget3_str, Ir.dixD_int, Ir.srcLst_eq, Ir.ofD_ref, Ir.tupD_ref, Ir.lenD_ref, Ir.lenD_tup, Ir.getI_ref, Ir.lsA_lst, Ir.ifA_t, Ir.appD_eq, Ir.extD_eq, Ir.catD_eq, Ir.rb_p, decide_true, decide_false, Bool.true_and, Bool.and_true, Ir.atA_no, Ir.atA_go, Ir.contA_next, Ir.contA_ret, Ir.size_fix, Ir.size_dyn, Ir.at_fix, Ir.at_dyn, Ir.turn_one, List.length_map, List.getElem?_nil, Ir.tgt, Ir.setAll, Bool.false_eq_true, List.set_nil, List.getElem?_cons_zero, List.getElem?_cons_succ, List.set_cons_zero, List.set_cons_succ, List.map_cons, List.map_nil, List.length_cons, List.length_nil, List.replicate_succ, List.replicate_zero, List.cons_append, List.nil_append, Option.map_some, Option.bind_some, Ir.app_get, Ir.app_get0, Ir.app_set, Ir.app_set0, Ir.app_take, Ir.app_one, Ir.len_app, Nat.reduceAdd, Nat.reduceSub, Nat.reduceLeDiff, if_true, if_false, wipeD]
    have go : ∀ (n i : Nat) (acc : List D), i + n = ms.length → lcGoF (.dyn 4) (lcfB (calK fs (k + 1)) [12] true (.and (.call 0 (.cons (.var 12) (.cons (.var 5) .nil))) (.call 0 (.cons (.var 12) (.cons (.var 6) .nil)))) (.var 12) [x0, x1, x2, x3, some (.ref 4), some (fm one), some (fm other), y7, y8, y9, x10, x11, x12]) n i acc S = .val (acc ++ ((ms.drop i).filter g).map fm) S := by
      intro n
      induction n with
      | zero =>
        intro i acc e
        have e : i = ms.length := by omega
        subst e
        show (match (Src.dyn 4).at ms.length S with | some none => Out.val acc S | _ => .bad) = _
        rw [dyn_at hS]
        simp
      | succ n ih =>
        intro i acc e
        have hi : i < ms.length := by omega
        have ea : (Src.dyn 4).at i S = some (some (fm ms[i])) := by rw [dyn_at hS]; simp [List.getElem?_eq_getElem hi]
        show (match (Src.dyn 4).at i S with
          | some none => Out.val acc S
          | some (some d) => M.bind (lcfB _ _ _ _ _ _ d) (fun e => lcGoF (.dyn 4) _ n (i + 1) (match e with | some e => acc ++ [e] | none => acc)) S
          | none => .bad) = _
        rw [ea]
        show M.bind (lcfB _ _ _ _ _ _ (fm ms[i])) _ S = _
        rw [bind_at, step _ (List.getElem_mem hi)]
        show lcGoF (.dyn 4) _ n (i + 1) (match (if g ms[i] = true then some (fm ms[i]) else none) with | some e => acc ++ [e] | none => acc) S = _
        rw [ih (i + 1) _ (by omega), List.drop_eq_getElem_cons hi]
        cases q : g ms[i] with
        | true => rw [List.filter_cons_of_pos q]; exact congrArg (Out.val · S) (List.append_assoc ..)
        | false => rw [List.filter_cons_of_neg (by rw [q]; exact Bool.false_ne_true)]; rfl
    rw [go ms.length 0 [] (by omega)]
    rfl
  have al := alloc_m (ms.filter g) S
  have hS2 : (S ++ [MO.lst ((ms.filter g).map fm)])[S.length]? = some (.lst ((ms.filter g).map fm)) := app_get0 ..
  have sl2 : srcLst (S ++ [MO.lst ((ms.filter g).map fm)]) (.ref S.length) = some (.dyn S.length) := by rw [srcLst_eq, hS2]
  have la : evL (calK fs (k + 1)) (.lc (.lst (.var 9)) [12] true (.call 0 (.cons (.var 12) (.cons (.var 7) .nil)))) [x0, x1, x2, x3, some (.ref 4), some (fm one), some (fm other), some (fm (comM one other)), some (.p (.bool true)), some (.ref S.length), x10, x11, x12] (S ++ [MO.lst ((ms.filter g).map fm)]) = .val ((ms.filter g).map fun u => D.p (.bool (covM u (comM one other)))) (S ++ [MO.lst ((ms.filter g).map fm)]) := by
    have h := l_lc_dyn (cal := calK fs (k + 1)) (it := .lst (.var 9)) (tg := [12]) (one := true) (elt := .call 0 (.cons (.var 12) (.cons (.var 7) .nil))) (ρ := [x0, x1, x2, x3, some (.ref 4), some (fm one), some (fm other), some (fm (comM one other)), some (.p (.bool true)), some (.ref S.length), x10, x11, x12])
      (S := S ++ [MO.lst ((ms.filter g).map fm)]) (S1 := S ++ [MO.lst ((ms.filter g).map fm)]) (ds := (ms.filter g).map fm) (f := fun _ => D.p (.bool true)) (j := S.length) (by simp -dsimp only [Ir.then_val, Ir.optA_some, Ir.boolA_t, Ir.boolA_f, Ir.seqA_next, Ir.seqA_ret, Ir.wp_val_, Ir.v_var, Ir.v_cst, Ir.v_bin, Ir.v_cmp, Ir.v_chain, Ir.v_and, Ir.v_or, Ir.v_not, Ir.v_ifx, Ir.v_neg, Ir.v_call, Ir.v_tup, Ir.v_lst, Ir.v_idx, Ir.v_idxL, Ir.v_slice, Ir.v_strOf, Ir.v_join, Ir.v_extend, Ir.v_append, Ir.v_len, Ir.v_isi, Ir.v_toInt, Ir.v_all, Ir.v_tupOf, Ir.v_dictOf, Ir.v_dlit, Ir.v_dget3, Ir.v_eqL, Ir.v_op1, Ir.v_op2, Ir.v_fstr, Ir.f_nil, Ir.f_cons, Ir.a_nil', Ir.a_cons', Ir.a_star', Ir.l_disp', Ir.l_of', Ir.l_cat', Ir.l_cut', Ir.b_no', Ir.b_at', Ir.i_tup', Ir.i_lst', Ir.i_str', Ir.i_rng', Ir.ss_nil', Ir.ss_asg, Ir.ss_expr, Ir.ss_ret, Ir.ss_unp, Ir.ss_ite, Ir.ss_setI, Ir.ss_for, Ir.finA_p, Ir.strD_str, Ir.ofD_tup, Ir.dicAt_eq, Ir.lstAt_eq, Ir.dget3_str, Ir.dixD_int, Ir.srcLst_eq, Ir.ofD_ref, Ir.tupD_ref, Ir.lenD_ref, Ir.lenD_tup, Ir.getI_ref, Ir.lsA_lst, Ir.ifA_t, Ir.appD_eq, Ir.extD_eq, Ir.catD_eq, Ir.rb_p, decide_true, decide_false, Bool.true_and, Bool.and_true, Ir.atA_no, Ir.atA_go, Ir.contA_next, Ir.contA_ret, Ir.size_fix, Ir.size_dyn, Ir.at_fix, Ir.at_dyn, Ir.turn_one, List.length_map, List.getElem?_nil, Ir.tgt, Ir.setAll, Bool.false_eq_true, List.set_nil, List.getElem?_cons_zero, List.getElem?_cons_succ, List.set_cons_zero, List.set_cons_succ, List.map_cons, List.map_nil, List.length_cons, List.length_nil, List.replicate_succ, List.replicate_zero, List.cons_append, List.nil_append, Option.map_some, Option.bind_some, Ir.app_get, Ir.app_get0, Ir.app_set, Ir.app_set0, Ir.app_take, Ir.app_one, Ir.len_app, Nat.reduceAdd, Nat.reduceSub, Nat.reduceLeDiff, if_true, if_false, sl2]) hS2 (by rw [List.length_map]; exact Nat.le_trans (List.length_filter_le ..) (by omega)) (fun d hd => by
        obtain ⟨u, hu, rfl⟩ := List.mem_map.mp hd
        obtain ⟨hu1, hu2⟩ := List.mem_filter.mp hu
        obtain ⟨ou, su⟩ := hok u hu1
        have hu2 : (covM u one && covM u other) = true := hu2
        rw [Bool.and_eq_true] at hu2
        have w := covers_ok k ou oc su (S ++ [MO.lst ((ms.filter g).map fm)])
        rw [cov_up hu2.1 hu2.2] at w
        refine ⟨_, rfl, ?_⟩
        simp -dsimp only [Ir.then_val, Ir.optA_some, Ir.boolA_t, Ir.boolA_f, Ir.seqA_next, Ir.seqA_ret, Ir.wp_val_, Ir.v_var, Ir.v_cst, Ir.v_bin, Ir.v_cmp, Ir.v_chain, Ir.v_and, Ir.v_or, Ir.v_not, Ir.v_ifx, Ir.v_neg, Ir.v_call, Ir.v_tup, Ir.v_lst, Ir.v_idx, Ir.v_idxL, Ir.v_slice, Ir.v_strOf, Ir.v_join, Ir.v_extend, Ir.v_append, Ir.v_len, Ir.v_isi, Ir.v_toInt, Ir.v_all, Ir.v_tupOf, Ir.v_dictOf, Ir.v_dlit, Ir.v_dget3, Ir.v_eqL, Ir.v_op1, Ir.v_op2, Ir.v_fstr, Ir.f_nil, Ir.f_cons, Ir.a_nil', Ir.a_cons', Ir.a_star', Ir.l_disp', Ir.l_of', Ir.l_cat', Ir.l_cut', Ir.b_no', Ir.b_at', Ir.i_tup', Ir.i_lst', Ir.i_str', Ir.i_rng', Ir.ss_nil', Ir.ss_asg, Ir.ss_expr, Ir.ss_ret, Ir.ss_unp, Ir.ss_ite, Ir.ss_setI, Ir.ss_for, Ir.finA_p, Ir.strD_str, Ir.ofD_tup, Ir.dicAt_eq, Ir.lstAt_eq, Ir.dget3_str, Ir.dixD_int, Ir.srcLst_eq, Ir.ofD_ref, Ir.tupD_ref, Ir.lenD_ref, Ir.lenD_tup, Ir.getI_ref, Ir.lsA_lst, Ir.ifA_t, Ir.appD_eq, Ir.extD_eq, Ir.catD_eq, Ir.rb_p, decide_true, decide_false, Bool.true_and, Bool.and_true, Ir.atA_no, Ir.atA_go, Ir.contA_next, Ir.contA_ret, Ir.size_fix, Ir.size_dyn, Ir.at_fix, Ir.at_dyn, Ir.turn_one, List.length_map, List.getElem?_nil, Ir.tgt, Ir.setAll, Bool.false_eq_true, List.set_nil, List.getElem?_cons_zero, List.getElem?_cons_succ, List.set_cons_zero, List.set_cons_succ, List.map_cons, List.map_nil, List.length_cons, List.length_nil, List.replicate_succ, List.replicate_zero, List.cons_append, List.nil_append, Option.map_some, Option.bind_some, Ir.app_get, Ir.app_get0, Ir.app_set, Ir.app_set0, Ir.app_take, Ir.app_one, Ir.len_app, Nat.reduceAdd, Nat.reduceSub, Nat.reduceLeDiff, if_true, if_false, wipeD, w])
    rw [h, List.map_map]
    congr 1
    refine List.map_congr_left fun u hu => ?_
    obtain ⟨hu1, hu2⟩ := List.mem_filter.mp hu
    have hu2 : (covM u one && covM u other) = true := hu2
    rw [Bool.and_eq_true] at hu2
    rw [cov_up hu2.1 hu2.2]
    rfl
  have ba := boolsM (fun u => covM u (comM one other)) (ms.filter g)
  have al2 : ((ms.filter g).map fun u => covM u (comM one other)).all id = true := List.all_eq_true.mpr fun b hb => by
    obtain ⟨u, hu, rfl⟩ := List.mem_map.mp hb
    obtain ⟨hu1, hu2⟩ := List.mem_filter.mp hu
    have hu2 : (covM u one && covM u other) = true := hu2
    rw [Bool.and_eq_true] at hu2
    exact cov_up hu2.1 hu2.2
  refine ⟨x12, (ms.filter g).map fm, ?_⟩
  unfold inner
  simp -dsimp only [Ir.then_val, Ir.optA_some, Ir.boolA_t, Ir.boolA_f, Ir.seqA_next, Ir.seqA_ret, Ir.wp_val_, Ir.v_var, Ir.v_cst, Ir.v_bin, Ir.v_cmp, Ir.v_chain, Ir.v_and, Ir.v_or, Ir.v_not, Ir.v_ifx, Ir.v_neg, Ir.v_call, Ir.v_tup, Ir.v_lst, Ir.v_idx, Ir.v_idxL, Ir.v_slice, Ir.v_strOf, Ir.v_join, Ir.v_extend, Ir.v_append, Ir.v_len, Ir.v_isi, Ir.v_toInt, Ir.v_all, Ir.v_tupOf, Ir.v_dictOf, Ir.v_dlit, Ir.v_dget3, Ir.v_eqL, Ir.v_op1, Ir.v_op2, Ir.v_fstr, Ir.f_nil, Ir.f_cons, Ir.a_nil', Ir.a_cons', Ir.a_star', Ir.l_disp', Ir.l_of', Ir.l_cat', Ir.l_cut', Ir.b_no', Ir.b_at', Ir.i_tup', Ir.i_lst', Ir.i_str', Ir.i_rng', Ir.ss_nil', Ir.ss_asg, Ir.ss_expr, Ir.ss_ret, Ir.ss_unp, Ir.ss_ite, Ir.ss_setI, Ir.ss_for, Ir.finA_p, Ir.strD_str, Ir.ofD_tup, Ir.dicAt_eq, Ir.lstAt_eq, Ir.dget3_str, Ir.dixD_int, Ir.srcLst_eq, Ir.ofD_ref, Ir.tupD_ref, Ir.lenD_ref, Ir.lenD_tup, Ir.getI_ref, Ir.lsA_lst, Ir.ifA_t, Ir.appD_eq, Ir.extD_eq, Ir.catD_eq, Ir.rb_p, decide_true, decide_false, Bool.true_and, Bool.and_true, Ir.atA_no, Ir.atA_go, Ir.contA_next, Ir.contA_ret, Ir.size_fix, Ir.size_dyn, Ir.at_fix, Ir.at_dyn, Ir.turn_one, List.length_map, List.getElem?_nil, Ir.tgt, Ir.setAll, Bool.false_eq_true, List.set_nil, List.getElem?_cons_zero, List.getElem?_cons_succ, List.set_cons_zero, List.set_cons_succ, List.map_cons, List.map_nil, List.length_cons, List.length_nil, List.replicate_succ, List.replicate_zero, List.cons_append, List.nil_append, Option.map_some, Option.bind_some, Ir.app_get, Ir.app_get0, Ir.app_set, Ir.app_set0, Ir.app_take, Ir.app_one, Ir.len_app, Nat.reduceAdd, Nat.reduceSub, Nat.reduceLeDiff, if_true, if_false, c1, c4, n1, i1, nb, c1', v0, v3, nv, b1, b2, lc, al, la, ba, al2]
end Ir.K26
set_option Elab.async false
set_option linter.all false
set_option maxRecDepth 100000
set_option maxHeartbeats 4000001
namespace Ir.K26
open PySem
def deep : Nat := 4
def capS : Str := "ABCDEFGHIJKLMNOPQRSTUVWXYZ"
def endS : Str := "abz09"
theorem low_app {x y : Str} (h1 : x.cps.toList.all (fun c => decide (c < 128)) = true) (h2 : y.cps.toList.all (fun c => decide (c < 128)) = true) : (x ++ y).cps.toList.all (fun c => decide (c < 128)) = true := by
  show (Str.append x y).cps.toList.all _ = true
  unfold Str.append
  simp only [Array.toList_append, List.all_append, h1, h2, Bool.and_self]
theorem ly_of {z : Str} (h : z.cps.toList.all (fun c => decide (c < 128)) = true) : Ly z := by
  have : z.cps.all (· < 0x110000) = true := by
    rw [← Array.all_toList, List.all_eq_true]
    intro c hc
    have := of_decide_eq_true (List.all_eq_true.mp h c hc)
    exact decide_eq_true (by omega)
  unfold Ly
  simpa [PyData.canLay0, PyData.strOk] using this
theorem sign_at {z : Str} (hz : z.cps.toList.all (fun c => decide (c < 128)) = true) (hl : z.length ≤ 1000) {r : Int} (h0 : 0 ≤ r) (h1 : r < z.length) (S : Sto) : ∃ c : Nat, getI S (.p (.str z)) (.p (.int r)) = some (.p (.str ⟨#[c]⟩)) ∧ c < 128 := by
  have hl2 : z.length ≤ sizeLine := by rw [sizeLine_eq]; omega
  obtain ⟨c, e, hc⟩ := pick z.cps.toList h0 (by rw [Array.length_toList]; exact h1)
  refine ⟨c, ?_, of_decide_eq_true (List.all_eq_true.mp hz c hc)⟩
  show (if z.length ≤ sizeLine then (L2.atI z.cps.toList r).map fun c => D.p (.str ⟨#[c]⟩) else none) = _
  rw [if_pos hl2, e]
  rfl
theorem cap_low : capS.cps.toList.all (fun c => decide (c < 128)) = true := by decide +kernel
theorem cap_len : capS.length = 26 := by decide +kernel
theorem end_low : endS.cps.toList.all (fun c => decide (c < 128)) = true := by decide +kernel
theorem end_len : endS.length = 5 := by decide +kernel
theorem rng_nat (n : Nat) (h : n ≤ 100000) : srcRng (.p (.int (n : Int))) = some (.fix ((List.range n).map fun (i : Nat) => .p (.int (i : Int)))) := by
  show (if (n : Int) ≤ 100000 ∧ -100000 ≤ (n : Int) then some (Src.fix ((List.range (n : Int).toNat).map fun (i : Nat) => .p (.int (i : Int)))) else none) = _
  rw [if_pos ⟨by omega, by omega⟩, Int.toNat_natCast]
theorem bop_str (x y : Str) (h : x.length + y.length ≤ 16777216) : bop .add (.p (.str x)) (.p (.str y)) = some (.p (.str (x ++ y))) := by
  show (if x.length + y.length ≤ sizeLine then some (D.p (.str (x ++ y))) else none) = _
  rw [if_pos (by rw [sizeLine_eq]; exact h)]
def nameE : E := .bin .add (.idx (.var 2) (.call 2 (.cons (.var 1) (.cons (.cst (.p (.int 26))) .nil)))) (.idx (.cst (.p (.str "abz09"))) (.call 2 (.cons (.var 1) (.cons (.cst (.p (.int 5))) .nil))))
/-- the names: few, each of plain signs -/
theorem names_ok (k : Nat) (x0 x3 x4 x5 x6 x7 x8 x9 x10 x11 x12 : Option D) {R S : Sto} (hI : dInv 0 R S) :
    ∃ (zs : List Str) (S' : Sto), evL (calK fs (k + 1)) (.lc (.rng (.call 2 (.cons (.var 1) (.cons (.cst (.p (.int 10))) .nil)))) [11] true nameE) [x0, some (.ref 1), some (.p (.str capS)), x3, x4, x5, x6, x7, x8, x9, x10, x11, x12] S = .val (zs.map fz) S' ∧
      zs.length ≤ 10 ∧ (∀ z ∈ zs, Ly z) ∧ dInv 100 R S' := by
  obtain ⟨r, S1, d1, d2, d3, I1⟩ := draw_ok k hI (many := 10) (by omega) (by omega) (by omega)
  obtain ⟨n, rfl⟩ : ∃ n : Nat, r = n := ⟨r.toNat, by omega⟩
  have hrn := rng_nat n (by omega)
  obtain ⟨es, S', e1, e2, e3, e4⟩ := l_lc_inv (cal := calK fs (k + 1)) (it := .rng (.call 2 (.cons (.var 1) (.cons (.cst (.p (.int 10))) .nil)))) (tg := [11]) (one := true) (elt := nameE)
    (ρ := [x0, some (.ref 1), some (.p (.str capS)), x3, x4, x5, x6, x7, x8, x9, x10, x11, x12]) (S0 := S) (S := S1) (ds := (List.range n).map fun (i : Nat) => D.p (.int (i : Int))) (by simp -dsimp only [Ir.then_val, Ir.optA_some, Ir.boolA_t, Ir.boolA_f, Ir.seqA_next, Ir.seqA_ret, Ir.wp_val_, Ir.v_var, Ir.v_cst, Ir.v_bin, Ir.v_cmp, Ir.v_chain, Ir.v_and, Ir.v_or, Ir.v_not, Ir.v_ifx, Ir.v_neg, Ir.v_call, Ir.v_tup, Ir.v_lst, Ir.v_idx, Ir.v_idxL, Ir.v_slice, Ir.v_strOf, Ir.v_join, Ir.v_extend, Ir.v_append, Ir.v_len, Ir.v_isi, Ir.v_toInt, Ir.v_all, Ir.v_tupOf, Ir.v_dictOf, Ir.v_dlit, Ir.v_dget3, Ir.v_eqL, Ir.v_op1, Ir.v_op2, Ir.v_fstr, Ir.f_nil, Ir.f_cons, Ir.a_nil', Ir.a_cons', Ir.a_star', Ir.l_disp', Ir.l_of', Ir.l_cat', Ir.l_cut', Ir.b_no', Ir.b_at', Ir.i_tup', Ir.i_lst', Ir.i_str', Ir.i_rng', Ir.ss_nil', Ir.ss_asg, Ir.ss_expr, Ir.ss_ret, Ir.ss_unp, Ir.ss_ite, Ir.ss_setI, Ir.ss_for, Ir.finA_p, Ir.strD_str, Ir.ofD_tup, Ir.dicAt_eq, Ir.lstAt_eq, Ir.dget3_str, Ir.dixD_int, Ir.srcLst_eq, Ir.ofD_ref, Ir.tupD_ref, Ir.lenD_ref, Ir.lenD_tup, Ir.getI_ref, Ir.lsA_lst, Ir.ifA_t, Ir.appD_eq, Ir.extD_eq, Ir.catD_eq, Ir.rb_p, decide_true, decide_false, Bool.true_and, Bool.and_true, Ir.atA_no, Ir.atA_go, Ir.contA_next, Ir.contA_ret, Ir.size_fix, Ir.size_dyn, Ir.at_fix, Ir.at_dyn, Ir.turn_one, List.length_map, List.getElem?_nil, Ir.tgt, Ir.setAll, Bool.false_eq_true, List.set_nil, List.getElem?_cons_zero, List.getElem?_cons_succ, List.set_cons_zero, List.set_cons_succ, List.map_cons, List.map_nil, List.length_cons, List.length_nil, List.replicate_succ, List.replicate_zero, List.cons_append, List.nil_append, Option.map_some, Option.bind_some, Ir.app_get, Ir.app_get0, Ir.app_set, Ir.app_set0, Ir.app_take, Ir.app_one, Ir.len_app, Nat.reduceAdd, Nat.reduceSub, Nat.reduceLeDiff, if_true, if_false, d1, hrn]) (by simp; omega)
    (fun i S => dInv (1 + 2 * i) R S) (fun d => ∃ z : Str, d = .p (.str z) ∧ Ly z) (by simpa using I1) (fun i d S hd hS => by
      obtain ⟨hi, _⟩ := List.getElem?_eq_some_iff.mp hd
      rw [List.length_map, List.length_range] at hi
      obtain ⟨a, S2, g1, g2, g3, I2⟩ := draw_ok k hS (many := 26) (by omega) (by omega) (by omega)
      obtain ⟨b, S3, h1, h2, h3, I3⟩ := draw_ok k I2 (many := 5) (by omega) (by omega) (by omega)
      obtain ⟨c, q1, q2⟩ := sign_at cap_low (by rw [cap_len]; omega) g2 (by rw [cap_len]; exact g3) S2
      obtain ⟨c', p1, p2⟩ := sign_at end_low (by rw [end_len]; omega) h2 (by rw [end_len]; exact h3) S3
      have p1 : getI S3 (.p (.str "abz09")) (.p (.int b)) = _ := p1
      have bs := bop_str ⟨#[c]⟩ ⟨#[c']⟩ (show 1 + 1 ≤ 16777216 by omega)
      refine ⟨_, fz (⟨#[c]⟩ ++ ⟨#[c']⟩), S3, rfl, ?_, ⟨_, rfl, ly_of (low_app (by simp [q2]) (by simp [p2]))⟩, dInv_mono I3 (by omega)⟩
      unfold nameE
      simp -dsimp only [Ir.then_val, Ir.optA_some, Ir.boolA_t, Ir.boolA_f, Ir.seqA_next, Ir.seqA_ret, Ir.wp_val_, Ir.v_var, Ir.v_cst, Ir.v_bin, Ir.v_cmp, Ir.v_chain, Ir.v_and, Ir.v_or, Ir.v_not, Ir.v_ifx, Ir.v_neg, Ir.v_call, Ir.v_tup, Ir.v_lst, Ir.v_idx, Ir.v_idxL, Ir.v_slice, Ir.v_strOf, Ir.v_join, Ir.v_extend, Ir.v_append, Ir.v_len, Ir.v_isi, Ir.v_toInt, Ir.v_all, Ir.v_tupOf, Ir.v_dictOf, Ir.v_dlit, Ir.v_dget3, Ir.v_eqL, Ir.v_op1, Ir.v_op2, Ir.v_fstr, Ir.f_nil, Ir.f_cons, Ir.a_nil', Ir.a_cons', Ir.a_star', Ir.l_disp', Ir.l_of', Ir.l_cat', Ir.l_cut', Ir.b_no', Ir.b_at', Ir.i_tup', Ir.i_lst', Ir.i_str', Ir.i_rng', Ir.ss_nil', Ir.ss_asg, Ir.ss_expr, Ir.ss_ret, Ir.ss_unp, Ir.ss_ite, Ir.ss_setI, Ir.ss_for, Ir.finA_p, Ir.strD_str, Ir.ofD_tup, Ir.dicAt_eq, Ir.lstAt_eq, Ir.dget3_str, Ir.dixD_int, Ir.srcLst_eq, Ir.ofD_ref, Ir.tupD_ref, Ir.lenD_ref, Ir.lenD_tup, Ir.getI_ref, Ir.lsA_lst, Ir.ifA_t, Ir.appD_eq, Ir.extD_eq, Ir.catD_eq, Ir.rb_p, decide_true, decide_false, Bool.true_and, Bool.and_true, Ir.atA_no, Ir.atA_go, Ir.contA_next, Ir.contA_ret, Ir.size_fix, Ir.size_dyn, Ir.at_fix, Ir.at_dyn, Ir.turn_one, List.length_map, List.getElem?_nil, Ir.tgt, Ir.setAll, Bool.false_eq_true, List.set_nil, List.getElem?_cons_zero, List.getElem?_cons_succ, List.set_cons_zero, List.set_cons_succ, List.map_cons, List.map_nil, List.length_cons, List.length_nil, List.replicate_succ, List.replicate_zero, List.cons_append, List.nil_append, Option.map_some, Option.bind_some, Ir.app_get, Ir.app_get0, Ir.app_set, Ir.app_set0, Ir.app_take, Ir.app_one, Ir.len_app, Nat.reduceAdd, Nat.reduceSub, Nat.reduceLeDiff, if_true, if_false, wipeD, g1, q1, h1, p1, bs])
  obtain ⟨zs, rfl, h3⟩ := strs_of e3
  refine ⟨zs, S', e1, ?_, h3, dInv_mono e4 (by simp; omega)⟩
  rw [List.length_map, List.length_map, List.length_range] at e2
  omega
theorem srt_ok {S : Sto} {j : Nat} {zs : List Str} (h : S[j]? = some (.lst (zs.map fz))) (hl : zs.length < 64) : srtD S (.ref j) = some ((sortS (unlike zs)).map fz) := by
  unfold srtD
  rw [lstAt_ref h]
  show (plainOf (zs.map fz)).bind _ = _
  rw [plain_f]
  show (strsOf (zs.map .str)).bind _ = _
  rw [strsOf_map]
  exact if_pos hl
def loopB : Ss := .cons (.for_ (.lst (.var 4)) [6] true inner) .nil
theorem loops_ok (k : Nat) {B : List Str} {ms : List Mk} (hok : ∀ m ∈ ms, m.Ok B ∧ m.Sh) (hl : ms.length ≤ 1000) {S0 : Sto} (hS : ∀ T, (S0 ++ T)[4]? = some (.lst (ms.map fm))) (x0 x1 x2 x3 x5 x6 x7 x8 x9 x10 x11 x12 : Option D) :
    ∃ ρ' S', forGo (.dyn 4) (turn (calK fs (k + 1)) [5] true loopB) ms.length 0 [x0, x1, x2, x3, some (.ref 4), x5, x6, x7, x8, x9, x10, x11, x12] S0 = .val (.next, ρ') S' ∧
      (∃ y5 y6 y7 y8 y9 y10 y11 y12 T, ρ' = [x0, x1, x2, x3, some (.ref 4), y5, y6, y7, y8, y9, y10, y11, y12] ∧ S' = S0 ++ T) := by
  have key : ∀ d i, (ms.map fm)[i]? = some d → ∃ m ∈ ms, d = fm m := fun d i hd => by
    obtain ⟨m, hm, rfl⟩ := List.mem_map.mp (List.mem_of_getElem? hd)
    exact ⟨m, hm, rfl⟩
  let St : Sl → Sto → Prop := fun ρ S => ∃ y5 y6 y7 y8 y9 y10 y11 y12 T, ρ = [x0, x1, x2, x3, some (.ref 4), y5, y6, y7, y8, y9, y10, y11, y12] ∧ S = S0 ++ T
  refine for_dyn (okS := fun c S => St c.2 S) (ds := ms.map fm) (j := 4) (fun _ ρ S => St ρ S) (fun i ρ S ⟨_, _, _, _, _, _, _, _, T, _, h⟩ => by rw [h]; exact hS T) (fun _ _ h => h) (fun i d ρ S hd hI => ?_) ms.length 0 _ S0 (by rw [List.length_map]; omega) ⟨_, _, _, _, _, _, _, _, [], rfl, by simp⟩
  obtain ⟨one, h1, rfl⟩ := key d i hd
  obtain ⟨y5, y6, y7, y8, y9, y10, y11, y12, T, e1, e2⟩ := hI
  subst e1 e2
  have sl : srcLst (S0 ++ T) (.ref 4) = some (.dyn 4) := by rw [srcLst_eq, hS T]
  have sz : (Src.dyn 4).size (S0 ++ T) = some ms.length := by rw [size_dyn, hS T]; simp
  obtain ⟨ρ', S', e, y6, y7, y8, y9, y10, y11, y12, T2, e3, e4⟩ := for_dyn (okS := fun c S => ∃ y6 y7 y8 y9 y10 y11 y12 T, c.2 = [x0, x1, x2, x3, some (.ref 4), some (fm one), y6, y7, y8, y9, y10, y11, y12] ∧ S = S0 ++ T) (ds := ms.map fm) (j := 4) (body := turn (calK fs (k + 1)) [6] true inner)
    (fun _ ρ S => ∃ y6 y7 y8 y9 y10 y11 y12 T, ρ = [x0, x1, x2, x3, some (.ref 4), some (fm one), y6, y7, y8, y9, y10, y11, y12] ∧ S = S0 ++ T) (fun i ρ S ⟨_, _, _, _, _, _, _, T, _, h⟩ => by rw [h]; exact hS T) (fun _ _ h => h) (fun i d ρ S hd hI => by
      obtain ⟨other, h2, rfl⟩ := key d i hd
      obtain ⟨y6, y7, y8, y9, y10, y11, y12, T, e1, e2⟩ := hI
      subst e1 e2
      obtain ⟨z9, us, e⟩ := inner_ok k hok hl h1 h2 (hS T) x0 x1 x2 x3 y7 y8 y9 y10 y11 y12
      refine ⟨_, _, (turn_one _ _ _ _ _ _).trans e, _, _, _, _, _, _, _, T ++ [.lst us], rfl, List.append_assoc ..⟩) ms.length 0 [x0, x1, x2, x3, some (.ref 4), some (fm one), y6, y7, y8, y9, y10, y11, y12] (S0 ++ T) (by rw [List.length_map]; omega) ⟨_, _, _, _, _, _, _, T, rfl, rfl⟩
  have e3 : ρ' = _ := e3
  subst e3 e4
  refine ⟨[x0, x1, x2, x3, some (.ref 4), some (fm one), y6, y7, y8, y9, y10, y11, y12], S0 ++ T2, ?_, _, _, _, _, _, _, _, _, T2, rfl, rfl⟩
  unfold loopB
  rw [turn_one]
  simp -dsimp only [Ir.then_val, Ir.optA_some, Ir.boolA_t, Ir.boolA_f, Ir.seqA_next, Ir.seqA_ret, Ir.wp_val_, Ir.v_var, Ir.v_cst, Ir.v_bin, Ir.v_cmp, Ir.v_chain, Ir.v_and, Ir.v_or, Ir.v_not, Ir.v_ifx, Ir.v_neg, Ir.v_call, Ir.v_tup, Ir.v_lst, Ir.v_idx, Ir.v_idxL, Ir.v_slice, Ir.v_strOf, Ir.v_join, Ir.v_extend, Ir.v_append, Ir.v_len, Ir.v_isi, Ir.v_toInt, Ir.v_all, Ir.v_tupOf, Ir.v_dictOf, Ir.v_dlit, Ir.v_dget3, Ir.v_eqL, Ir.v_op1, Ir.v_op2, Ir.v_fstr, Ir.f_nil, Ir.f_cons, Ir.a_nil', Ir.a_cons', Ir.a_star', Ir.l_disp', Ir.l_of', Ir.l_cat', Ir.l_cut', Ir.b_no', Ir.b_at', Ir.i_tup', Ir.i_lst', Ir.i_str', Ir.i_rng', Ir.ss_nil', Ir.ss_asg, Ir.ss_expr, Ir.ss_ret, Ir.ss_unp, Ir.ss_ite, Ir.ss_setI, Ir.ss_for, Ir.finA_p, Ir.strD_str, Ir.ofD_tup, Ir.dicAt_eq, Ir.lstAt_eq, Ir.dget3_str, Ir.dixD_int, Ir.srcLst_eq, Ir.ofD_ref, Ir.tupD_ref, Ir.lenD_ref, Ir.lenD_tup, Ir.getI_ref, Ir.lsA_lst, Ir.ifA_t, Ir.appD_eq, Ir.catD_eq, Ir.rb_p, decide_true, decide_false, Bool.true_and, Bool.and_true, Ir.atA_no, Ir.atA_go, Ir.contA_next, Ir.contA_ret, Ir.size_fix, Ir.size_dyn, Ir.at_fix, Ir.at_dyn, Ir.turn_one, List.length_map, List.getElem?_nil, Ir.tgt, Ir.setAll, Bool.false_eq_true, List.set_nil, List.getElem?_cons_zero, List.getElem?_cons_succ, List.set_cons_zero, List.set_cons_succ, List.map_cons, List.map_nil, List.length_cons, List.length_nil, List.replicate_succ, List.replicate_zero, List.cons_append, List.nil_append, Option.map_some, Option.bind_some, Ir.app_get, Ir.app_get0, Ir.app_set, Ir.app_set0, Ir.app_take, Ir.len_app, Nat.reduceAdd, Nat.reduceSub, Nat.reduceLeDiff, if_true, if_false, sl, sz]
  rw [e]
  rfl
end Ir.K26
set_option Elab.async false
set_option linter.all false
set_option maxRecDepth 100000
set_option maxHeartbeats 4000001
namespace Ir.K26
open PySem PySem.W
theorem four_marks (k : Nat) (x0 x2 x5 x6 x7 x8 x9 x10 x11 x12 x4 : Option D) {B : List Str} {R S : Sto} {j : Nat} (hI : dInv 100 R S) (hj : R[j]? = some (.lst (B.map fz))) (hB : B.length ≤ 1000) (nd : B.Nodup) (ly : ∀ z ∈ B, Ly z) :
    ∃ (ms : List Mk) (S' : Sto), evL (calK fs (k + 2)) (.lc (.rng (.cst (.p (.int 3)))) [11] true (.call 5 (.cons (.var 1) (.cons (.var 3) .nil)))) [x0, some (.ref 1), x2, some (.ref (j + 2)), x4, x5, x6, x7, x8, x9, x10, x11, x12] S = .val (ms.map fm) S' ∧ ms.length = 3 ∧ (∀ m ∈ ms, m.Ok B ∧ m.Sh) ∧ dInv 100000 R S' := by
  have hrn : srcRng (.p (.int 3)) = some (.fix ((List.range 3).map fun (i : Nat) => .p (.int (i : Int)))) := rng_nat 3 (by omega)
  obtain ⟨es, S', e1, e2, e3, e4⟩ := l_lc_inv (cal := calK fs (k + 2)) (it := .rng (.cst (.p (.int 3)))) (tg := [11]) (one := true) (elt := .call 5 (.cons (.var 1) (.cons (.var 3) .nil)))
    (ρ := [x0, some (.ref 1), x2, some (.ref (j + 2)), x4, x5, x6, x7, x8, x9, x10, x11, x12]) (S0 := S) (S := S) (ds := (List.range 3).map fun (i : Nat) => D.p (.int (i : Int))) (by simp -dsimp only [Ir.then_val, Ir.optA_some, Ir.boolA_t, Ir.boolA_f, Ir.seqA_next, Ir.seqA_ret, Ir.wp_val_, Ir.v_var, Ir.v_cst, Ir.v_bin, Ir.v_cmp, Ir.v_chain, Ir.v_and, Ir.v_or, Ir.v_not, Ir.v_ifx, Ir.v_neg, Ir.v_call, Ir.v_tup, Ir.v_lst, Ir.v_idx, Ir.v_idxL, Ir.v_slice, Ir.v_strOf, Ir.v_join, Ir.v_extend, Ir.v_append, Ir.v_len, Ir.v_isi, Ir.v_toInt, Ir.v_all, Ir.v_tupOf, Ir.v_dictOf, Ir.v_dlit, Ir.v_dget3, Ir.v_eqL, Ir.v_op1, Ir.v_op2, Ir.v_fstr, Ir.f_nil, Ir.f_cons, Ir.a_nil', Ir.a_cons', Ir.a_star', Ir.l_disp', Ir.l_of', Ir.l_cat', Ir.l_cut', Ir.b_no', Ir.b_at', Ir.i_tup', Ir.i_lst', Ir.i_str', Ir.i_rng', Ir.ss_nil', Ir.ss_asg, Ir.ss_expr, Ir.ss_ret, Ir.ss_unp, Ir.ss_ite, Ir.ss_setI, Ir.ss_for, Ir.finA_p, Ir.strD_str, Ir.ofD_tup, Ir.dicAt_eq, Ir.lstAt_eq, Ir.dget3_str, Ir.dixD_int, Ir.srcLst_eq, Ir.ofD_ref, Ir.tupD_ref, Ir.lenD_ref, Ir.lenD_tup, Ir.getI_ref, Ir.lsA_lst, Ir.ifA_t, Ir.appD_eq, Ir.extD_eq, Ir.catD_eq, Ir.rb_p, decide_true, decide_false, Bool.true_and, Bool.and_true, Ir.atA_no, Ir.atA_go, Ir.contA_next, Ir.contA_ret, Ir.size_fix, Ir.size_dyn, Ir.at_fix, Ir.at_dyn, Ir.turn_one, List.length_map, List.getElem?_nil, Ir.tgt, Ir.setAll, Bool.false_eq_true, List.set_nil, List.getElem?_cons_zero, List.getElem?_cons_succ, List.set_cons_zero, List.set_cons_succ, List.map_cons, List.map_nil, List.length_cons, List.length_nil, List.replicate_succ, List.replicate_zero, List.cons_append, List.nil_append, Option.map_some, Option.bind_some, Ir.app_get, Ir.app_get0, Ir.app_set, Ir.app_set0, Ir.app_take, Ir.app_one, Ir.len_app, Nat.reduceAdd, Nat.reduceSub, Nat.reduceLeDiff, if_true, if_false, hrn]) (by simp)
    (fun i S => dInv (100 + 2000 * i) R S) (fun d => ∃ m : Mk, d = fm m ∧ m.Ok B ∧ m.Sh) (by simpa using hI) (fun i d S hd hS => by
      have hi := (List.getElem?_eq_some_iff.mp hd).1
      rw [List.length_map, List.length_range] at hi
      obtain ⟨m, S2, g1, g2, g3, I2⟩ := mark_ok k hS (by omega) hj hB nd ly
      refine ⟨_, fm m, S2, rfl, ?_, ⟨m, rfl, g2, g3⟩, dInv_mono I2 (by omega)⟩
      simp -dsimp only [Ir.then_val, Ir.optA_some, Ir.boolA_t, Ir.boolA_f, Ir.seqA_next, Ir.seqA_ret, Ir.wp_val_, Ir.v_var, Ir.v_cst, Ir.v_bin, Ir.v_cmp, Ir.v_chain, Ir.v_and, Ir.v_or, Ir.v_not, Ir.v_ifx, Ir.v_neg, Ir.v_call, Ir.v_tup, Ir.v_lst, Ir.v_idx, Ir.v_idxL, Ir.v_slice, Ir.v_strOf, Ir.v_join, Ir.v_extend, Ir.v_append, Ir.v_len, Ir.v_isi, Ir.v_toInt, Ir.v_all, Ir.v_tupOf, Ir.v_dictOf, Ir.v_dlit, Ir.v_dget3, Ir.v_eqL, Ir.v_op1, Ir.v_op2, Ir.v_fstr, Ir.f_nil, Ir.f_cons, Ir.a_nil', Ir.a_cons', Ir.a_star', Ir.l_disp', Ir.l_of', Ir.l_cat', Ir.l_cut', Ir.b_no', Ir.b_at', Ir.i_tup', Ir.i_lst', Ir.i_str', Ir.i_rng', Ir.ss_nil', Ir.ss_asg, Ir.ss_expr, Ir.ss_ret, Ir.ss_unp, Ir.ss_ite, Ir.ss_setI, Ir.ss_for, Ir.finA_p, Ir.strD_str, Ir.ofD_tup, Ir.dicAt_eq, Ir.lstAt_eq, Ir.dget3_str, Ir.dixD_int, Ir.srcLst_eq, Ir.ofD_ref, Ir.tupD_ref, Ir.lenD_ref, Ir.lenD_tup, Ir.getI_ref, Ir.lsA_lst, Ir.ifA_t, Ir.appD_eq, Ir.extD_eq, Ir.catD_eq, Ir.rb_p, decide_true, decide_false, Bool.true_and, Bool.and_true, Ir.atA_no, Ir.atA_go, Ir.contA_next, Ir.contA_ret, Ir.size_fix, Ir.size_dyn, Ir.at_fix, Ir.at_dyn, Ir.turn_one, List.length_map, List.getElem?_nil, Ir.tgt, Ir.setAll, Bool.false_eq_true, List.set_nil, List.getElem?_cons_zero, List.getElem?_cons_succ, List.set_cons_zero, List.set_cons_succ, List.map_cons, List.map_nil, List.length_cons, List.length_nil, List.replicate_succ, List.replicate_zero, List.cons_append, List.nil_append, Option.map_some, Option.bind_some, Ir.app_get, Ir.app_get0, Ir.app_set, Ir.app_set0, Ir.app_take, Ir.app_one, Ir.len_app, Nat.reduceAdd, Nat.reduceSub, Nat.reduceLeDiff, if_true, if_false, wipeD, g1])
  have : ∀ es : List D, (∀ e ∈ es, ∃ m : Mk, e = fm m ∧ m.Ok B ∧ m.Sh) → ∃ ms : List Mk, es = ms.map fm ∧ ∀ m ∈ ms, m.Ok B ∧ m.Sh := by
    intro es
    induction es with
    | nil => exact fun _ => ⟨[], rfl, fun m hm => nomatch hm⟩
    | cons e es ih =>
      intro h
      obtain ⟨m, rfl, hm⟩ := h e (List.mem_cons_self ..)
      obtain ⟨ms, rfl, hs⟩ := ih fun q hq => h q (List.mem_cons_of_mem _ hq)
      exact ⟨m :: ms, rfl, fun q hq => by rcases List.mem_cons.mp hq with rfl | hq; exact hm; exact hs q hq⟩
  obtain ⟨ms, rfl, h3⟩ := this es e3
  refine ⟨ms, S', e1, ?_, h3, dInv_mono e4 (by simp)⟩
  simpa using e2
theorem three {ms : List Mk} (h : ms.length = 3) : ∃ a b c, ms = [a, b, c] := by
  match ms, h with
  | [a, b, c], _ => exact ⟨a, b, c, rfl⟩
theorem eq_same {B : List Str} {m : Mk} (hm : m.Ok B) (S : Sto) : cop S .eq (.p m.py) (.p m.py) = some true := by
  rw [cop_eq, eq_py hm hm, eqM_refl]
def tailL : Ss := (.cons (.asg 10 (.call 1 (.cons (.call 1 (.cons (.idx (.var 4) (.cst (.p (.int 0)))) (.cons (.idx (.var 4) (.cst (.p (.int 1)))) .nil))) (.cons (.idx (.var 4) (.cst (.p (.int 2)))) .nil))))
    (.cons (.ret (.cmp .eq (.var 10) (.call 1 (.cons (.idx (.var 4) (.cst (.p (.int 0)))) (.cons (.call 1 (.cons (.idx (.var 4) (.cst (.p (.int 1)))) (.cons (.idx (.var 4) (.cst (.p (.int 2)))) .nil))) .nil)))))
    .nil))
theorem tail_ok (k : Nat) {B : List Str} {a b c : Mk} (ha : a.Ok B ∧ a.Sh) (hb : b.Ok B ∧ b.Sh) (hc : c.Ok B ∧ c.Sh) {S : Sto} (hS : S[4]? = some (.lst ([a, b, c].map fm))) (x0 x1 x2 x3 x5 x6 x7 x8 x9 x10 x11 x12 : Option D) :
    ∃ ρ, exSs (calK fs (k + 1)) tailL [x0, x1, x2, x3, some (.ref 4), x5, x6, x7, x8, x9, x10, x11, x12] S = .val (.ret (.p (.bool true)), ρ) S := by
  have g0 : getI S (.ref 4) (.p (.int 0)) = some (fm a) := by rw [getI_ref, hS]; rfl
  have g1 : getI S (.ref 4) (.p (.int 1)) = some (fm b) := by rw [getI_ref, hS]; rfl
  have g2 : getI S (.ref 4) (.p (.int 2)) = some (fm c) := by rw [getI_ref, hS]; rfl
  have c1 := incommon_ok k ha.1 hb.1 ha.2 S
  have oab := com_ok ha.1 hb.1
  have c2 := incommon_ok k oab hc.1 (com_sh (o := b) ha.2) S
  have c3 := incommon_ok k hb.1 hc.1 hb.2 S
  have obc := com_ok hb.1 hc.1
  have c4 := incommon_ok k ha.1 obc ha.2 S
  rw [← com_assoc] at c4
  have q := eq_same (com_ok oab hc.1) S
  refine ⟨[x0, x1, x2, x3, some (.ref 4), x5, x6, x7, x8, x9, some (fm (comM (comM a b) c)), x11, x12], ?_⟩
  unfold tailL
  simp -dsimp only [Ir.ss_asg, Ir.ss_ret, Ir.v_call, Ir.v_cmp, Ir.a_cons', Ir.a_nil', Ir.v_idx, Ir.v_var, Ir.v_cst, Ir.then_val, Ir.optA_some, List.getElem?_cons_zero, List.getElem?_cons_succ, List.set_cons_zero, List.set_cons_succ, g0, g1, g2, c1, c2, c3, c4, q, Option.map_some]
theorem law_true (ns : List Int) (_ : ns.length ≤ 63) : Ok (wp (callF (calK fs deep) ⟨1, 13, b6⟩ [.p (.list (ns.map .int))] []) (fun d _ => d = .p (.bool true)) (fun _ _ => False)) := by
  refine ⟨?_⟩
  have hI : dInv 0 [] [dInts ns, st4 0 0 0] := ⟨ns, 0, 0, 0, rfl, by decide, by decide, by decide, by decide⟩
  have a1 : alloc (.lst ((ns.map PyData.int).map D.p)) [] = .val (.ref 0) [dInts ns] := by
    have := alloc_plain (ns.map PyData.int) []
    rw [this]
    have eA : (MO.lst ((ns.map PyData.int).map D.p)) = dInts ns := by
      unfold dInts
      rw [List.map_map]
      rfl
    rw [eA]; rfl
  have of1 : ofD [] (.p (.list (ns.map .int))) = some ((ns.map PyData.int).map D.p) := rfl
  have a2 : alloc (.lst [.ref 0, .p (.int 0), .p (.int 0), .p (.int 0)]) [dInts ns] = .val (.ref 1) [dInts ns, st4 0 0 0] := by kernel_rfl
  have o4 : (4 : Nat) ≤ 100000 := by omega
  obtain ⟨zs, S1, e1, z2, z3, I1⟩ := names_ok 3 (some (.p (.list (ns.map .int)))) none none none none none none none none none none hI
  have l1 := dInv_len I1
  have l1 : S1.length = 2 := l1
  have m1 := alloc_f zs S1
  rw [l1] at m1
  have I1' := dInv_app I1 [MO.lst (zs.map fz)]
  have g1 : (S1 ++ [MO.lst (zs.map fz)])[2]? = some (.lst (zs.map fz)) := by rw [← l1]; exact app_get0 ..
  have s1 := srt_ok g1 (by omega)
  have l2 : (S1 ++ [MO.lst (zs.map fz)]).length = 3 := by rw [List.length_append, l1]; rfl
  have m2 := alloc_f (sortS (unlike zs)) (S1 ++ [MO.lst (zs.map fz)])
  rw [l2] at m2
  have I2 := dInv_app I1' [MO.lst ((sortS (unlike zs)).map fz)]
  have pB := sortS_perm (unlike zs)
  have nB : (sortS (unlike zs)).Nodup := pB.nodup_iff.mpr (unlike_nd zs)
  have lB : (sortS (unlike zs)).length ≤ 1000 := by rw [pB.length_eq]; have := unlike_le zs; omega
  have yB : ∀ z ∈ sortS (unlike zs), Ly z := fun z hz => z3 z (unlike_mem.mp (pB.mem_iff.mp hz))
  generalize sortS (unlike zs) = B at *
  obtain ⟨ms, S3, e3, h3, k3, I3⟩ := four_marks 2 (some (.p (.list (ns.map .int)))) (some (.p (.str capS))) none none none none none none none none none (j := 1) (dInv_mono I2 (by decide)) rfl lB nB yB
  have l3 := dInv_len I3
  have l3 : S3.length = 4 := l3
  obtain ⟨a, b, c, rfl⟩ := three h3
  have m3 := alloc_m [a, b, c] S3
  rw [l3] at m3
  have hS : ∀ T, ((S3 ++ [MO.lst ([a, b, c].map fm)]) ++ T)[4]? = some (.lst ([a, b, c].map fm)) := fun T => by
    rw [List.append_assoc, ← l3]
    exact app_get0 ..
  obtain ⟨ρ', S4, e4, y5, y6, y7, y8, y9, y10, y11, y12, T, e5, e6⟩ := loops_ok 3 k3 (by simp) hS (some (.p (.list (ns.map .int)))) (some (.ref 1)) (some (.p (.str capS))) (some (.ref 3)) none none none none none none none none
  subst e5 e6
  have e4 : forGo (.dyn 4) (turn (calK fs 4) [5] true loopB) 3 0 [some (.p (.list (ns.map .int))), some (.ref 1), some (.p (.str capS)), some (.ref 3), some (.ref 4), none, none, none, none, none, none, none, none] (S3 ++ [MO.lst ([a, b, c].map fm)]) = _ := e4
  have hS0 := hS []
  rw [List.append_nil] at hS0
  obtain ⟨ρ2, e7⟩ := tail_ok 3 (k3 a (by simp)) (k3 b (by simp)) (k3 c (by simp)) (hS T) (some (.p (.list (ns.map .int)))) (some (.ref 1)) (some (.p (.str capS))) (some (.ref 3)) y5 y6 y7 y8 y9 y10 y11 y12
  have sl : srcLst (S3 ++ [MO.lst ([a, b, c].map fm)]) (.ref 4) = some (.dyn 4) := by rw [srcLst_eq, hS0]
  have sz : (Src.dyn 4).size (S3 ++ [MO.lst ([a, b, c].map fm)]) = some 3 := by rw [size_dyn, hS0]; rfl
  have E : callF (calK fs deep) ⟨1, 13, b6⟩ [.p (.list (ns.map .int))] [] = .val (.p (.bool true)) (((S3 ++ [MO.lst ([a, b, c].map fm)]) ++ T).take 0) := by
    rw [callA [] rfl]
    show finA 0 (exSs (calK fs 4) (.cons (.asg 1 _) (.cons (.asg 2 (.cst (.p (.str capS)))) (.cons (.asg 3 (.lst (.lc _ [11] true nameE))) (.cons (.asg 3 (.lst (.op1 srtD (.var 3)))) (.cons (.asg 4 (.lst (.lc _ [11] true _))) (.cons (.for_ (.lst (.var 4)) [5] true loopB) tailL)))))) [some (.p (.list (ns.map .int))), none, none, none, none, none, none, none, none, none, none, none, none] []) = _
    simp -dsimp only [Ir.ss_asg, Ir.v_lst, Ir.l_disp', Ir.a_cons', Ir.a_nil', Ir.l_of', Ir.v_var, Ir.v_cst, Ir.then_val, Ir.optA_some, Ir.l_op1', List.getElem?_cons_zero, List.getElem?_cons_succ, List.set_cons_zero, List.set_cons_succ, of1, a1, a2, o4, if_true, List.length_cons, List.length_nil, Nat.reduceAdd, e1, m1, s1, m2, e3, m3, Ir.ss_for, Ir.i_lst', sl, sz, e4, Ir.seqA_next, e7, Ir.finA_p]
    try rfl
  rw [E]
  rfl
end Ir.K26
set_option Elab.async false
set_option maxRecDepth 100000
set_option maxHeartbeats 4000001
/-! ### the table, the head -/
namespace Ir.K26
open PySem L2 PySem.Spec PyProof.Rows
def nm : List Str := ["covers", "in_common", "_law_draw", "_law_covers", "_law_common", "_law_drawn_mark", "law"]
def dd0 : He.DefD := ddOf "covers" (top 1)
def dd1 : He.DefD := ddOf "in_common" (top 2)
def dd2 : He.DefD := ddOf "_law_draw" (top 4)
def dd3 : He.DefD := ddOf "_law_covers" (top 5)
def dd4 : He.DefD := ddOf "_law_common" (top 6)
def dd5 : He.DefD := ddOf "_law_drawn_mark" (top 7)
def dd6 : He.DefD := ddOf "law" (top 8)
def fnD : List He.DefD := [dd0, dd1, dd2, dd3, dd4, dd5, dd6]
def fa : List He.Fa := [.glo "covers", .glo "in_common", .glo "_law_draw", .glo "_law_covers", .glo "_law_common", .glo "_law_drawn_mark", .glo "law", .free "all", .free "int", .free "isinstance", .free "list", .free "range", .free "set", .free "sorted", .free "str", .free "tuple"]
def cs : List (Str × PyData) := []
def ts : List He.Tab := []
def ex (K : PySem.W.Frag) : Bool := (cs.all fun c => constB K c)
abbrev ph (K : PySem.W.Frag) (i : Nat) : Option Addr := (nm[i]?).map (He.ga K)
abbrev aOf (K : PySem.W.Frag) (i : Nat) : Addr := He.ga K (nm.getD i "")
section
variable {P : Program} {w : World} {K : PySem.W.Frag} {h h' : Heap} {mg : Str → Option Value} {base : Heap}
theorem cs_at (c : He.SaysX fa fnD ts [] ex w h' K) (i : Nat) {q : Str × PyData} (e : cs[i]? = some q := by rfl) : constB K q = true := by
  have z := c.more
  unfold ex at z
  exact List.all_eq_true.mp z q (List.mem_of_getElem? e)
theorem txt (X : K.In h) (G : h.Ns mainGlobals mg) (c : He.SaysX fa fnD ts [] ex w h' K) : Txt (gOf K (ph K)) w mg (aOf K) where
  ph := fun i f e => by
    obtain ⟨x, e1, e2⟩ := Option.map_eq_some_iff.mp e
    obtain ⟨h1, h2⟩ := List.getElem?_eq_some_iff.mp e1
    refine ⟨h1, ?_⟩
    have e3 : nm.getD i "" = x := by rw [List.getD_eq_getElem?_getD, e1]; rfl
    show f = He.ga K (nm.getD i "")
    rw [e3, e2]
  p0 := rfl
  m0 := He.glo_ok X G (c.t.d.fact 0 (f := .glo "covers") rfl)
  p1 := rfl
  m1 := He.glo_ok X G (c.t.d.fact 1 (f := .glo "in_common") rfl)
  p2 := rfl
  m2 := He.glo_ok X G (c.t.d.fact 2 (f := .glo "_law_draw") rfl)
  p3 := rfl
  m3 := He.glo_ok X G (c.t.d.fact 3 (f := .glo "_law_covers") rfl)
  p4 := rfl
  m4 := He.glo_ok X G (c.t.d.fact 4 (f := .glo "_law_common") rfl)
  p5 := rfl
  m5 := He.glo_ok X G (c.t.d.fact 5 (f := .glo "_law_drawn_mark") rfl)
  p6 := rfl
  m6 := He.glo_ok X G (c.t.d.fact 6 (f := .glo "law") rfl)
  b_all := He.free_ok X G (c.t.d.fact 7 (f := .free "all") rfl)
  b_int := He.free_ok X G (c.t.d.fact 8 (f := .free "int") rfl)
  b_isinstance := He.free_ok X G (c.t.d.fact 9 (f := .free "isinstance") rfl)
  b_list := He.free_ok X G (c.t.d.fact 10 (f := .free "list") rfl)
  b_range := He.free_ok X G (c.t.d.fact 11 (f := .free "range") rfl)
  b_set := He.free_ok X G (c.t.d.fact 12 (f := .free "set") rfl)
  b_sorted := He.free_ok X G (c.t.d.fact 13 (f := .free "sorted") rfl)
  b_str := He.free_ok X G (c.t.d.fact 14 (f := .free "str") rfl)
  b_tuple := He.free_ok X G (c.t.d.fact 15 (f := .free "tuple") rfl)
theorem row0 (T : Txt (gOf K (ph K)) w mg (aOf K)) (c : He.SaysX fa fnD ts [] ex w h' K) : Row P w (gOf K (ph K)) mg base (aOf K 0) ⟨2, 3, b0⟩ := by
  obtain ⟨fd, F⟩ := c.t.d.def_ 0 (d := dd0) rfl
  exact row_mk (x := "covers") (st := top 1) (N := ["mark", "other", "name"]) (ps := ["mark", "other"]) F sc0 rfl rfl (fun _ _ _ _ _ _ us hl => match us, hl with | [_, _], _ => rfl) (fun _ _ _ _ _ _ _ _ G => bd0 T G)
theorem row1 (T : Txt (gOf K (ph K)) w mg (aOf K)) (c : He.SaysX fa fnD ts [] ex w h' K) : Row P w (gOf K (ph K)) mg base (aOf K 1) ⟨2, 3, b1⟩ := by
  obtain ⟨fd, F⟩ := c.t.d.def_ 1 (d := dd1) rfl
  exact row_mk (x := "in_common") (st := top 2) (N := ["mark", "other", "name"]) (ps := ["mark", "other"]) F sc1 rfl rfl (fun _ _ _ _ _ _ us hl => match us, hl with | [_, _], _ => rfl) (fun _ _ _ _ _ _ _ _ G => bd1 T G)
theorem row2 (T : Txt (gOf K (ph K)) w mg (aOf K)) (c : He.SaysX fa fnD ts [] ex w h' K) : Row P w (gOf K (ph K)) mg base (aOf K 2) ⟨2, 3, b2⟩ := by
  obtain ⟨fd, F⟩ := c.t.d.def_ 2 (d := dd2) rfl
  exact row_mk (x := "_law_draw") (st := top 4) (N := ["_law_stream", "_law_many", "_law_number"]) (ps := ["_law_stream", "_law_many"]) F sc2 rfl rfl (fun _ _ _ _ _ _ us hl => match us, hl with | [_, _], _ => rfl) (fun _ _ _ _ _ _ _ _ G => bd2 T G)
theorem row3 (T : Txt (gOf K (ph K)) w mg (aOf K)) (c : He.SaysX fa fnD ts [] ex w h' K) : Row P w (gOf K (ph K)) mg base (aOf K 3) ⟨2, 3, b3⟩ := by
  obtain ⟨fd, F⟩ := c.t.d.def_ 3 (d := dd3) rfl
  exact row_mk (x := "_law_covers") (st := top 5) (N := ["_law_mark", "_law_other", "_law_name"]) (ps := ["_law_mark", "_law_other"]) F sc3 rfl rfl (fun _ _ _ _ _ _ us hl => match us, hl with | [_, _], _ => rfl) (fun _ _ _ _ _ _ _ _ G => bd3 T G)
theorem row4 (T : Txt (gOf K (ph K)) w mg (aOf K)) (c : He.SaysX fa fnD ts [] ex w h' K) : Row P w (gOf K (ph K)) mg base (aOf K 4) ⟨2, 3, b4⟩ := by
  obtain ⟨fd, F⟩ := c.t.d.def_ 4 (d := dd4) rfl
  exact row_mk (x := "_law_common") (st := top 6) (N := ["_law_mark", "_law_other", "_law_name"]) (ps := ["_law_mark", "_law_other"]) F sc4 rfl rfl (fun _ _ _ _ _ _ us hl => match us, hl with | [_, _], _ => rfl) (fun _ _ _ _ _ _ _ _ G => bd4 T G)
theorem row5 (T : Txt (gOf K (ph K)) w mg (aOf K)) (c : He.SaysX fa fnD ts [] ex w h' K) : Row P w (gOf K (ph K)) mg base (aOf K 5) ⟨2, 4, b5⟩ := by
  obtain ⟨fd, F⟩ := c.t.d.def_ 5 (d := dd5) rfl
  exact row_mk (x := "_law_drawn_mark") (st := top 7) (N := ["_law_stream", "_law_names", "_law_way", "_law_name"]) (ps := ["_law_stream", "_law_names"]) F sc5 rfl rfl (fun _ _ _ _ _ _ us hl => match us, hl with | [_, _], _ => rfl) (fun _ _ _ _ _ _ _ _ G => bd5 T G)
theorem row6 (T : Txt (gOf K (ph K)) w mg (aOf K)) (c : He.SaysX fa fnD ts [] ex w h' K) : Row P w (gOf K (ph K)) mg base (aOf K 6) ⟨1, 13, b6⟩ := by
  obtain ⟨fd, F⟩ := c.t.d.def_ 6 (d := dd6) rfl
  exact row_mk (x := "law") (st := top 8) (N := ["_law_script", "_law_stream", "_law_letters", "_law_names", "_law_marks", "_law_one", "_law_other", "_law_found", "_law_both", "_law_upper", "_law_left", "_law_k", "_law_mark"]) (ps := ["_law_script"]) F sc6 rfl rfl (fun _ _ _ _ _ _ us hl => match us, hl with | [_], _ => rfl) (fun _ _ _ _ _ _ _ _ G => bd6 T G)
theorem rows (T : Txt (gOf K (ph K)) w mg (aOf K)) (c : He.SaysX fa fnD ts [] ex w h' K) : ∀ i, i < 7 → ∃ fn, fs i = some fn ∧ Row P w (gOf K (ph K)) mg base (aOf K i) fn
  | 0, _ => ⟨_, rfl, row0 T c⟩
  | 1, _ => ⟨_, rfl, row1 T c⟩
  | 2, _ => ⟨_, rfl, row2 T c⟩
  | 3, _ => ⟨_, rfl, row3 T c⟩
  | 4, _ => ⟨_, rfl, row4 T c⟩
  | 5, _ => ⟨_, rfl, row5 T c⟩
  | 6, _ => ⟨_, rfl, row6 T c⟩
  | i + 7, h => absurd h (by omega)
theorem tabs (T : Txt (gOf K (ph K)) w mg (aOf K)) (c : He.SaysX fa fnD ts [] ex w h' K) (k : Nat) : Tb P w (gOf K (ph K)) mg base (calK fs k) k := tb_all (fun i f e => by
  obtain ⟨h1, h2⟩ := T.ph i f e
  subst h2
  exact rows T c i h1) k
theorem facts (DEPTH : Nat) (law_true : ∀ ns : List Int, ns.length ≤ 63 → Ok (wp (callF (calK fs DEPTH) ⟨1, 13, b6⟩ [.p (.list (ns.map .int))] []) (fun d _ => d = .p (.bool true)) (fun _ _ => False))) {f : Addr} (X : K.In h) (G : h.Ns mainGlobals mg) (hfa : mg ("law" : Str) = some (.ref f)) (c : He.SaysX fa fnD ts [] ex w h' K) :
    ∃ fd : FuncData, (∀ (s : Shared) (v : Value), BindsTo s fd ⟨[v], []⟩ [("_law_script", v)]) ∧ ∀ base : Heap, K.In base → base.Ns mainGlobals mg → FnOk P w K mg base CX0 (DEPTH + 1) f fd ["_law_script"] (spLaw K 63) := by
  have T := txt X G c
  obtain ⟨fd, F⟩ := c.t.d.def_ 6 (d := dd6) rfl
  have e := hfa.symm.trans T.m6
  cases e
  have b := FunD.bindsA (ps := ["_law_script"]) F fun _ _ _ _ _ _ us hl => match us, hl with | [_], _ => rfl
  exact ⟨fd, fun s v => b s [v] rfl, fun base _ _ => law_of (g := gOf K (ph K)) (fn_ok (N := ["_law_script", "_law_stream", "_law_letters", "_law_names", "_law_marks", "_law_one", "_law_other", "_law_found", "_law_both", "_law_upper", "_law_left", "_law_k", "_law_mark"]) (fn := ⟨1, 13, b6⟩) (fun_of (x := "law") (st := top 8) F) sc6 (tabs T c DEPTH) rfl rfl (fun _ _ _ _ _ _ G => bd6 T G)) fun ns h => (law_true ns h).h⟩
theorem says (e1 : He.obsT fa fnD ts K = He.valT fnD ts w) (e2 : ex K = true) : He.SaysX fa fnD ts [] ex w h' K := ⟨e1, e2, fun _ h => (nomatch h), fun _ h => (nomatch h), fun _ h => (nomatch h)⟩
theorem walk {l : PySem.W.OpenLaw} {q : Program} {loose : List Str} {XP : (Str → Option Value) → Heap → Prop} {YP : World → Heap → Prop} {d : DefRec} {K : Params → PySem.W.Frag} (hn : l.most = some 63) (hdf : d.params.defaults = []) (hnm : d.name = "law")
    (hY : ∀ (w : World) (h : Heap), YP w h → (K w.params).In h)
    (c1 : ∀ w : World, He.obsT fa fnD ts (K w.params) = He.valT fnD ts w) (c2 : ∀ w : World, ex (K w.params) = true) :
    PySem.W.WalkO q loose XP YP l.row.toRowW d [] (fun f vs => PySem.call f vs) :=
  L2.walk_of (n := 63) (k := deep + 1) (x := "_law_script") (CX := fun _ => CX0) (sp := fun w => spLaw (K w.params) 63) hn (by decide) hdf ⟨rfl, by decide, by decide⟩ hY
    (fun w mg fa h KX G hfa => facts deep law_true KX G (by rw [hnm] at hfa; exact hfa) (says (h' := h) (c1 w) (c2 w))) (fun _ _ a ns hl ho hS => ⟨a, ns, rfl, ho, hS, hl, fun _ => rfl⟩) fun _ _ _ _ _ z => z
end
end Ir.K26
open PySem PySem.W PyProof.Rows in
set_option maxRecDepth 100000 in
set_option maxHeartbeats 0 in
theorem PySem.Challenge.cw_strangemill_k26_whole_marks_holds : PySem.Challenge.rw_strangemill_k26_whole_marks.Holds := by
  w_on; o_law; k_head; (case hw => w_witness2)
  k_fill
  refine Ir.K26.walk (l := PySem.Challenge.rw_strangemill_k26_whole_marks) rfl rfl rfl (fun w h Y => PySem.W.kIn_of Y) ?c1 ?c2
  case c1 => intro w; kernel_rfl
  case c2 => intro w; kernel_rfl
