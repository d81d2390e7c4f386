/- Layer 6 (parse), as plain functions over tokens: the grammar, and what holds of each of its parts. No code is  -/
import Derived.Test.YtoegbgkgenjplaaTk
namespace Go.Proofs.Ytoegbgkgenjplaa.Ps
set_option linter.unusedVariables false
set_option linter.unusedSimpArgs false
open Go.Proofs.Ytoegbgkgenjplaa.Lx Go.Proofs.Ytoegbgkgenjplaa.Tk
abbrev Ts := List Tv
/-- what a part of the grammar comes to: something, and the tokens behind it; or an error at a place -/
inductive R (α : Type) where
  | ok (a : α) (r : Ts)
  | bad (at_ er : Int)
def R.bind {α β : Type} (x : R α) (f : α → Ts → R β) : R β :=
  match x with
  | .ok a r => f a r
  | .bad p e => .bad p e
/-- a part of the grammar, in a text of a length -/
abbrev P (α : Type) := Int → Ts → R α
def place (n : Int) : Ts → Int
  | [] => n
  | t :: _ => t.a
def wrong {α : Type} : P α := fun n ts => .bad (place n ts) (if ts = [] then 6 else 5)
def ret {α : Type} (a : α) : P α := fun _ ts => .ok a ts
def bnd {α β : Type} (p : P α) (q : α → P β) : P β := fun n ts => (p n ts).bind fun a r => q a n r
/-- does a token of this text stand here -/
def isW (c : Bs) : Ts → Bool
  | [] => false
  | t :: _ => L t.s == c
def alt {α : Type} (c : Bs) (p q : P α) : P α := fun n ts => if isW c ts = true then p n ts.tail else q n ts
def take (c : Bs) : P Unit := alt c (ret ()) wrong
def keywords : List Bs := [[97, 114, 114, 97, 121], [98, 111, 111, 108], [99, 111, 110, 115, 116, 114, 97, 105, 110, 116], [102, 97, 108, 115, 101], [105, 110, 116], [109, 97, 120, 105, 109, 105, 122, 101], [109, 105, 110, 105, 109, 105, 122, 101], [111, 102], [111, 117, 116, 112, 117, 116, 95, 97, 114, 114, 97, 121], [111, 117, 116, 112, 117, 116, 95, 118, 97, 114], [115, 97, 116, 105, 115, 102, 121], [115, 111, 108, 118, 101], [116, 114, 117, 101], [118, 97, 114]]
def nameB (t : Tv) : Bool := decide (t.k = 1) && !(keywords.contains (L t.s))
def name : P ByteArray := fun n ts =>
  match ts with
  | [] => wrong n []
  | t :: r => if nameB t = true then .ok t.s r else wrong n (t :: r)
def integer : P Int := fun n ts =>
  match ts with
  | [] => wrong n []
  | t :: r => if t.k = 2 then .ok t.v r else wrong n (t :: r)
def exact (m : Int) : P Unit := fun n ts =>
  match ts with
  | [] => wrong n []
  | t :: r => if t.k = 2 ∧ t.v = m then .ok () r else wrong n (t :: r)
/-- an expression that is no list; an expression -/
structure Pl where
  k : Int
  n : Int
  s : ByteArray
structure Xp where
  k : Int
  n : Int
  s : ByteArray
  l : List Pl
def nos : ByteArray := ⟨#[]⟩
def Pl.xp (p : Pl) : Xp := ⟨p.k, p.n, p.s, []⟩
def plain : P Pl := fun n ts =>
  match ts with
  | [] => wrong n []
  | t :: r =>
    if t.k = 2 then .ok ⟨1, t.v, nos⟩ r
    else if L t.s = [116, 114, 117, 101] then .ok ⟨2, 1, nos⟩ r
    else if L t.s = [102, 97, 108, 115, 101] then .ok ⟨2, 0, nos⟩ r
    else if nameB t = true then .ok ⟨3, 0, t.s⟩ r
    else wrong n (t :: r)
def comma : Bs := [44]
/-- some of a part, with a comma between each two, up to what closes them -/
def some_ {α : Type} (p : P α) (close : Bs) (most : Nat) : Nat → List α → P (List α)
  | 0, _ => wrong
  | f + 1, out => fun n ts => if out.length = most then .bad (place n ts) 3 else
      bnd p (fun x => alt close (ret (out ++ [x])) (bnd (take comma) fun _ => some_ p close most f (out ++ [x]))) n ts
def list : P (List Pl) := alt [93] (ret []) (some_ plain [93] 64 65 [])
def expr : P Xp := alt [91] (bnd list fun l => ret ⟨4, 0, nos, l⟩) (bnd plain fun p => ret p.xp)
def args : P (List Xp) := alt [41] (ret []) (some_ expr [41] 64 65 [])
def dom : P (Bool × List (Int × Int)) :=
  alt [98, 111, 111, 108] (ret (true, []))
    (alt [123] (bnd (some_ integer [125] 256 257 []) fun l => ret (false, l.map fun i => (i, i)))
      (bnd integer fun lo => bnd (take [46, 46]) fun _ => bnd integer fun hi => ret (false, [(lo, hi)])))
structure It where
  kind : Int
  name : ByteArray
  bool : Bool
  dom : List (Int × Int)
  size : Int
  out : Bool
  vals : List Xp
  ask : Int
def flag (c : Bs) (p : P Unit) : P Bool := alt c (bnd p fun _ => ret true) (ret false)
def variable_ : P It :=
  bnd dom fun d => bnd (take [58]) fun _ => bnd name fun w => bnd (flag [58, 58] (take [111, 117, 116, 112, 117, 116, 95, 118, 97, 114])) fun o =>
    bnd (alt [61] (bnd plain fun y => ret [y.xp]) (ret [])) fun v => ret ⟨2, w, d.1, d.2, 0, o, v, 0⟩
def kind : P Bool := alt [98, 111, 111, 108] (ret true) (bnd (take [105, 110, 116]) fun _ => ret false)
def value (b : Bool) : P Pl := if b = true then alt [116, 114, 117, 101] (ret ⟨2, 1, nos⟩) (alt [102, 97, 108, 115, 101] (ret ⟨2, 0, nos⟩) wrong) else bnd integer fun i => ret ⟨1, i, nos⟩
def par : P It := bnd kind fun b => bnd (take [58]) fun _ => bnd name fun w => bnd (take [61]) fun _ => bnd (value b) fun y => ret ⟨1, w, b, [], 0, false, [y.xp], 0⟩
def outArr (m : Int) : P Unit :=
  bnd (take [111, 117, 116, 112, 117, 116, 95, 97, 114, 114, 97, 121]) fun _ => bnd (take [40]) fun _ => bnd (take [91]) fun _ => bnd (exact 1) fun _ => bnd (take [46, 46]) fun _ => bnd (exact m) fun _ => bnd (take [93]) fun _ => take [41]
def array : P It :=
  bnd (take [91]) fun _ => bnd (exact 1) fun _ => bnd (take [46, 46]) fun _ => bnd integer fun m => bnd (take [93]) fun _ => bnd (take [111, 102]) fun _ =>
    bnd (flag [118, 97, 114] (ret ())) fun v => bnd kind fun b => bnd (take [58]) fun _ => bnd name fun w =>
      bnd (if v = true then flag [58, 58] (outArr m) else ret false) fun o => bnd (take [61]) fun _ => bnd (take [91]) fun _ => bnd list fun l =>
        ret ⟨if v = true then 4 else 3, w, b, [], m, o, l.map Pl.xp, 0⟩
def constr : P It := bnd name fun w => bnd (take [40]) fun _ => bnd args fun l => ret ⟨5, w, false, [], 0, false, l, 0⟩
def solve : P It :=
  alt [115, 97, 116, 105, 115, 102, 121] (ret ⟨6, nos, false, [], 0, false, [], 0⟩)
    (alt [109, 105, 110, 105, 109, 105, 122, 101] (bnd name fun w => ret ⟨6, w, false, [], 0, false, [], 1⟩)
      (alt [109, 97, 120, 105, 109, 105, 122, 101] (bnd name fun w => ret ⟨6, w, false, [], 0, false, [], 2⟩) wrong))
def item : P It := alt [118, 97, 114] variable_ (alt [97, 114, 114, 97, 121] array (alt [99, 111, 110, 115, 116, 114, 97, 105, 110, 116] constr (alt [115, 111, 108, 118, 101] solve par)))
def semi : Bs := [59]
/-- an item, with what ends it -/
def stmt : P It := bnd item fun x => bnd (take semi) fun _ => ret x
/-- a token of one of these texts stands here -/
def isOne (cs : List Bs) : Ts → Bool
  | [] => false
  | t :: _ => cs.contains (L t.s)
/-- the words that begin an item -/
def firsts : List Bs := [[105, 110, 116], [98, 111, 111, 108], [118, 97, 114], [97, 114, 114, 97, 121], [99, 111, 110, 115, 116, 114, 97, 105, 110, 116], [115, 111, 108, 118, 101]]
/-- items, behind those that are there already -/
def allD (n : Int) : Nat → List It → Ts → List It × Int × Int
  | 0, out, _ => (out, 0, 0)
  | f + 1, out, ts =>
    if ts = [] then (out, 0, 0)
    else if out.length = 512 then ([], place n ts, if isOne firsts ts = true then 3 else 5)
    else match stmt n ts with
      | .bad p e => ([], p, e)
      | .ok x r => allD n f (out ++ [x]) r
end Go.Proofs.Ytoegbgkgenjplaa.Ps
