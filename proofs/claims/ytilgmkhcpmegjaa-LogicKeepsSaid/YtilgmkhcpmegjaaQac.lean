/- Layer 11 (sense), pure: constraints and models, which may be. Layer 6 (parse), as plain functions over tokens: -/
import Derived.Test.YtilgmkhcpmegjaaEa
set_option linter.unusedVariables false
set_option linter.unusedSimpArgs false
section
namespace Go.Proofs.Ytilgmkhcpmegjaa.Sn
open Go.Proofs.Ytilgmkhcpmegjaa.Zs
/-- a constraint; a model -/
structure Cn where
  k : Int
  x : List Int
  a : List Int
  c : Int
structure Md where
  ds : List (List Rn)
  cs : List Cn
  ask : Int
  goal : Int
/-- as many variables and numbers as the kind asks -/
def shp (k : Int) (n m : Nat) : Bool :=
  if k = 1 ∨ k = 2 ∨ k = 3 ∨ k = 11 then decide (n = m)
  else if k = 4 ∨ k = 5 ∨ k = 6 then decide (n = m + 1)
  else if k = 7 ∨ k = 8 ∨ k = 9 ∨ k = 14 then decide (n = 3 ∧ m = 0)
  else if k = 10 ∨ k = 15 then decide (n = 2 ∧ m = 0)
  else if k = 12 ∨ k = 13 then decide (1 ≤ n ∧ m = 0)
  else if k = 16 then decide (n = 2 ∧ 1 ≤ m ∧ m ≤ 64)
  else if k = 17 then decide (3 ≤ n ∧ m = 0)
  else if k = 18 then decide (m = 0)
  else if k = 19 then decide (m = 2 * n)
  else false
/-- the kinds -/
inductive Kd : Int → Prop
  | k1 : Kd 1 | k2 : Kd 2 | k3 : Kd 3 | k4 : Kd 4 | k5 : Kd 5 | k6 : Kd 6 | k7 : Kd 7 | k8 : Kd 8 | k9 : Kd 9 | k10 : Kd 10 | k11 : Kd 11 | k12 : Kd 12 | k13 : Kd 13 | k14 : Kd 14
  | k15 : Kd 15 | k16 : Kd 16 | k17 : Kd 17 | k18 : Kd 18 | k19 : Kd 19
theorem kd_or (k : Int) : Kd k ∨ (k < 1 ∨ 19 < k) := by
  by_cases h : 1 ≤ k ∧ k ≤ 19
  · left
    obtain ⟨n, rfl⟩ : ∃ n : Nat, k = (n : Int) := ⟨k.toNat, by omega⟩
    have h1 : 1 ≤ n := by omega
    have h2 : n ≤ 19 := by omega
    match n, h1, h2 with
    | 1, _, _ => exact .k1
    | 2, _, _ => exact .k2
    | 3, _, _ => exact .k3
    | 4, _, _ => exact .k4
    | 5, _, _ => exact .k5
    | 6, _, _ => exact .k6
    | 7, _, _ => exact .k7
    | 8, _, _ => exact .k8
    | 9, _, _ => exact .k9
    | 10, _, _ => exact .k10
    | 11, _, _ => exact .k11
    | 12, _, _ => exact .k12
    | 13, _, _ => exact .k13
    | 14, _, _ => exact .k14
    | 15, _, _ => exact .k15
    | 16, _, _ => exact .k16
    | 17, _, _ => exact .k17
    | 18, _, _ => exact .k18
    | 19, _, _ => exact .k19
    | n + 20, _, h => omega
  · right; omega
theorem shp_out {k : Int} (h : k < 1 ∨ 19 < k) (n m : Nat) : shp k n m = false := by
  unfold shp
  repeat rw [if_neg (by omega)]
/-- the numbers of a clause are signs, those of tasks not below nought -/
def okE (k n : Int) : Bool := !(decide (k = 11) && decide (n ≠ 1) && decide (n ≠ -1) || decide (k = 19) && decide (n < 0))
def sgn (k : Int) (a : List Int) (c : Int) : Bool := a.all (okE k) && (decide (k ≠ 19) || decide (0 ≤ c))
def tak (k : Int) : Bool := decide (1 ≤ k ∧ k ≤ 6) || decide (k = 19)
/-- the places of those that must be truth values -/
def bools {α : Type} (k : Int) (x : List α) : List α :=
  if k = 4 ∨ k = 5 ∨ k = 6 then x.drop (x.length - 1) else if k = 11 ∨ k = 12 ∨ k = 13 ∨ k = 14 then x else []
def tru (d : List Rn) : Bool := decide (0 < d.length) && (decide (0 ≤ (d.getD 0 (0, 0)).1) && decide ((d.getD (d.length - 1) (0, 0)).2 ≤ 1))
def isV (n : Nat) (x : Int) : Bool := decide (0 ≤ x) && decide (x < n)
def domAt (ds : List (List Rn)) (x : Int) : List Rn := ds.getD x.toNat []
/-- what is asked of the numbers alone -/
def numOk (k : Int) (n : Nat) (a : List Int) (c : Int) : Bool := shp k n a.length && sgn k a c && decide (n ≤ 32) && a.all within && within c && (decide (c = 0) || tak k)
def conOk (ds : List (List Rn)) (c : Cn) : Bool := numOk c.k c.x.length c.a c.c && c.x.all (isV ds.length) && (bools c.k c.x).all (fun x => tru (domAt ds x))
def domOk (d : List Rn) : Bool := right d && decide (0 < d.length)
def reqOk (m : Md) : Bool := if m.ask = 0 then decide (m.goal = 0) else if m.ask = 1 ∨ m.ask = 2 then isV m.ds.length m.goal else false
def modOk (m : Md) : Bool := decide (m.ds.length ≤ 64) && decide (m.cs.length ≤ 64) && m.ds.all domOk && m.cs.all (conOk m.ds) && reqOk m
theorem shp_le {k : Int} {n m : Nat} (h : shp k n m = true) (hn : n ≤ 32) : m ≤ 64 := by
  unfold shp at h
  repeat (split at h; · simp only [decide_eq_true_eq] at h; omega)
  cases h
theorem shp_pos {k : Int} {n m : Nat} (h : shp k n m = true) (hk : k = 4 ∨ k = 5 ∨ k = 6) : n = m + 1 := by
  unfold shp at h
  rw [if_neg (by omega), if_pos hk] at h
  simpa using h
section
open Go.Proofs.Ytilgmkhcpmegjaa.Zs
def valAt (a : List Int) (i : Int) : Int := a.getD i.toNat 0
def vals (x a : List Int) : List Int := x.map (valAt a)
def sing (v : List Int) : List (List Rn) := v.map fun n => [(n, n)]
def iot (n : Nat) : List Int := (List.range n).map Int.ofNat
def bit (n : Int) : Bool := decide (0 ≤ n) && decide (n ≤ 1)
/-- asked rightly, of these values -/
def askV (k : Int) (v a : List Int) (c : Int) : Bool := v.all within && numOk k v.length a c && (bools k v).all bit
def inR (x a : List Int) : Bool := x.all (isV a.length)
def asked (c : Cn) (a : List Int) : Bool := inR c.x a && askV c.k (vals c.x a) c.a c.c
theorem vals_len (x a : List Int) : (vals x a).length = x.length := by simp [vals]
theorem iot_len (n : Nat) : (iot n).length = n := by simp [iot]
theorem sing_len (v : List Int) : (sing v).length = v.length := by simp [sing]
theorem iot_snoc (n : Nat) : iot (n + 1) = iot n ++ [(n : Int)] := by simp [iot, List.range_succ]
theorem sing_snoc (v : List Int) (n : Int) : sing (v ++ [n]) = sing v ++ [[(n, n)]] := by simp [sing]
theorem bools_map {α β : Type} (f : α → β) (k : Int) (x : List α) : bools k (x.map f) = (bools k x).map f := by
  unfold bools
  rw [List.length_map]
  split
  · rw [List.map_drop]
  · split
    · rfl
    · rfl
theorem iot_vals (v : List Int) : (iot v.length).map (valAt v) = v := by
  apply List.ext_getElem
  · simp [iot]
  · intro i h1 h2
    simp [iot, valAt, h2]
theorem tru_one (n : Int) : tru [(n, n)] = bit n := by simp [tru, bit]
theorem tru_at {v : List Int} {x : Int} (h : isV v.length x = true) : tru (domAt (sing v) x) = bit (valAt v x) := by
  simp only [isV, Bool.and_eq_true, decide_eq_true_eq] at h
  have hx : x.toNat < v.length := by omega
  have e : domAt (sing v) x = [(v[x.toNat], v[x.toNat])] := by simp [domAt, sing, hx]
  rw [e, tru_one]
  simp [valAt, hx]
theorem iot_in (n : Nat) : (iot n).all (isV n) = true := by
  rw [List.all_eq_true]
  intro x hx
  simp only [iot, List.mem_map, List.mem_range] at hx
  obtain ⟨i, hi, rfl⟩ := hx
  simp [isV, hi]
theorem bools_mem {α : Type} {k : Int} {x : List α} {y : α} (h : y ∈ bools k x) : y ∈ x := by
  unfold bools at h
  split at h
  · exact List.mem_of_mem_drop h
  · split at h
    · exact h
    · cases h
theorem all_congr' {α : Type} {l : List α} {f g : α → Bool} (h : ∀ x ∈ l, f x = g x) : l.all f = l.all g := by
  induction l with
  | nil => rfl
  | cons a l ih => rw [List.all_cons, List.all_cons, h a (by simp), ih fun x hx => h x (by simp [hx])]
theorem bools_sing (k : Int) (v : List Int) : (bools k (iot v.length)).all (fun x => tru (domAt (sing v) x)) = (bools k v).all bit := by
  have e : bools k v = (bools k (iot v.length)).map (valAt v) := by rw [← bools_map, iot_vals]
  rw [e, List.all_map]
  refine all_congr' fun x hx => ?_
  rw [tru_at (List.all_eq_true.1 (iot_in v.length) x (bools_mem hx))]; rfl
theorem con_sing (k : Int) (v a : List Int) (c : Int) : (v.all within && conOk (sing v) ⟨k, iot v.length, a, c⟩) = askV k v a c := by
  simp only [conOk, askV, iot_len, sing_len, iot_in, bools_sing, Bool.and_true, Bool.and_assoc]
/-- the sum of products -/
def smF : List (Int × Int) → Int
  | [] => 0
  | p :: l => p.1 * p.2 + smF l
def sm (a v : List Int) : Int := smF (a.zip v)
def lastV (v : List Int) : Int := v.getD (v.length - 1) 0
def flg (v : List Int) : Bool := lastV v == 1
def other (v : List Int) : List Int := v.take (v.length - 1)
def litE (p : Int × Int) : Bool := (p.2 == 1) == (p.1 == 1)
def lits (a v : List Int) : Bool := (a.zip v).any litE
def chosen (v l : List Int) : Bool := decide (1 ≤ v.getD 0 0) && decide (v.getD 0 0 ≤ l.length) && (l.getD (v.getD 0 0 - 1).toNat 0 == lastV v)
def allI (n : Nat) (f : Nat → Bool) : Bool := (List.range n).all f
def differ (v : List Int) : Bool := allI v.length fun i => !(v.take i).contains (v.getD i 0)
abbrev Tk3 := Int × Int × Int
def tks (v a : List Int) : List Tk3 := v.zip ((a.take v.length).zip (a.drop v.length))
def ldE (t : Int) (p : Tk3) : Int := if p.1 ≤ t ∧ t < p.1 + p.2.1 then p.2.2 else 0
def ld (l : List Tk3) (t : Int) : Int := match l with | [] => 0 | p :: l => ldE t p + ld l t
def never (v a : List Int) (c : Int) : Bool := allI v.length fun i => decide (ld (tks v a) (v.getD i 0) ≤ c)
/-- whether it holds, if it is asked rightly -/
def holdV (k : Int) (v a : List Int) (c : Int) : Bool :=
  if k = 1 then sm a v == c
  else if k = 2 then decide (sm a v ≤ c)
  else if k = 3 then sm a v != c
  else if k = 4 then flg v == (sm a v == c)
  else if k = 5 then flg v == decide (sm a v ≤ c)
  else if k = 6 then !flg v || decide (sm a v ≤ c)
  else if k = 7 then v.getD 0 0 * v.getD 1 0 == v.getD 2 0
  else if k = 8 then min (v.getD 0 0) (v.getD 1 0) == v.getD 2 0
  else if k = 9 then max (v.getD 0 0) (v.getD 1 0) == v.getD 2 0
  else if k = 10 then max (v.getD 0 0) (-v.getD 0 0) == v.getD 1 0
  else if k = 15 then v.getD 0 0 == v.getD 1 0
  else if k = 11 then lits a v
  else if k = 12 then flg v == !(other v).contains 0
  else if k = 13 then flg v == (other v).contains 1
  else if k = 14 then flg v == (v.getD 0 0 != v.getD 1 0)
  else if k = 16 then chosen v a
  else if k = 17 then chosen v ((other v).drop 1)
  else if k = 18 then differ v
  else if k = 19 then never v a c
  else false
def holds (c : Cn) (a : List Int) : Bool := asked c a && holdV c.k (vals c.x a) c.a c.c
end
end Go.Proofs.Ytilgmkhcpmegjaa.Sn
end
section
namespace Go.Proofs.Ytilgmkhcpmegjaa.Ps
open Go.Proofs.Ytilgmkhcpmegjaa.Lx Go.Proofs.Ytilgmkhcpmegjaa.Tk
abbrev Ts := List Tv
/-- what a part of the grammar comes to: something, and the tokens behind it; or an error at a place -/
inductive R (α : Type) where
  | ok (a : α) (r : Ts)
  | bad (at_ er : Int)
def R.bind {α β : Type} (x : R α) (f : α → Ts → R β) : R β :=
  match x with
  | .ok a r => f a r
  | .bad p e => .bad p e
/-- a part of the grammar, in a text of a length -/
abbrev P (α : Type) := Int → Ts → R α
def place (n : Int) : Ts → Int
  | [] => n
  | t :: _ => t.a
def wrong {α : Type} : P α := fun n ts => .bad (place n ts) (if ts = [] then 6 else 5)
def ret {α : Type} (a : α) : P α := fun _ ts => .ok a ts
def bnd {α β : Type} (p : P α) (q : α → P β) : P β := fun n ts => (p n ts).bind fun a r => q a n r
/-- does a token of this text stand here -/
def isW (c : Bs) : Ts → Bool
  | [] => false
  | t :: _ => L t.s == c
def alt {α : Type} (c : Bs) (p q : P α) : P α := fun n ts => if isW c ts = true then p n ts.tail else q n ts
def take (c : Bs) : P Unit := alt c (ret ()) wrong
def keywords : List Bs := [[97, 114, 114, 97, 121], [98, 111, 111, 108], [99, 111, 110, 115, 116, 114, 97, 105, 110, 116], [102, 97, 108, 115, 101], [105, 110, 116], [109, 97, 120, 105, 109, 105, 122, 101], [109, 105, 110, 105, 109, 105, 122, 101], [111, 102], [111, 117, 116, 112, 117, 116, 95, 97, 114, 114, 97, 121], [111, 117, 116, 112, 117, 116, 95, 118, 97, 114], [115, 97, 116, 105, 115, 102, 121], [115, 111, 108, 118, 101], [116, 114, 117, 101], [118, 97, 114]]
def nameB (t : Tv) : Bool := decide (t.k = 1) && !(keywords.contains (L t.s))
def name : P ByteArray := fun n ts =>
  match ts with
  | [] => wrong n []
  | t :: r => if nameB t = true then .ok t.s r else wrong n (t :: r)
def integer : P Int := fun n ts =>
  match ts with
  | [] => wrong n []
  | t :: r => if t.k = 2 then .ok t.v r else wrong n (t :: r)
def exact (m : Int) : P Unit := fun n ts =>
  match ts with
  | [] => wrong n []
  | t :: r => if t.k = 2 ∧ t.v = m then .ok () r else wrong n (t :: r)
/-- an expression that is no list; an expression -/
structure Pl where
  k : Int
  n : Int
  s : ByteArray
structure Xp where
  k : Int
  n : Int
  s : ByteArray
  l : List Pl
def nos : ByteArray := ⟨#[]⟩
def Pl.xp (p : Pl) : Xp := ⟨p.k, p.n, p.s, []⟩
def plain : P Pl := fun n ts =>
  match ts with
  | [] => wrong n []
  | t :: r =>
    if t.k = 2 then .ok ⟨1, t.v, nos⟩ r
    else if L t.s = [116, 114, 117, 101] then .ok ⟨2, 1, nos⟩ r
    else if L t.s = [102, 97, 108, 115, 101] then .ok ⟨2, 0, nos⟩ r
    else if nameB t = true then .ok ⟨3, 0, t.s⟩ r
    else wrong n (t :: r)
def comma : Bs := [44]
/-- some of a part, with a comma between each two, up to what closes them -/
def some_ {α : Type} (p : P α) (close : Bs) (most : Nat) : Nat → List α → P (List α)
  | 0, _ => wrong
  | f + 1, out => fun n ts => if out.length = most then .bad (place n ts) 3 else
      bnd p (fun x => alt close (ret (out ++ [x])) (bnd (take comma) fun _ => some_ p close most f (out ++ [x]))) n ts
def list : P (List Pl) := alt [93] (ret []) (some_ plain [93] 64 65 [])
def expr : P Xp := alt [91] (bnd list fun l => ret ⟨4, 0, nos, l⟩) (bnd plain fun p => ret p.xp)
def args : P (List Xp) := alt [41] (ret []) (some_ expr [41] 64 65 [])
def dom : P (Bool × List (Int × Int)) :=
  alt [98, 111, 111, 108] (ret (true, []))
    (alt [123] (bnd (some_ integer [125] 256 257 []) fun l => ret (false, l.map fun i => (i, i)))
      (bnd integer fun lo => bnd (take [46, 46]) fun _ => bnd integer fun hi => ret (false, [(lo, hi)])))
structure It where
  kind : Int
  name : ByteArray
  bool : Bool
  dom : List (Int × Int)
  size : Int
  out : Bool
  vals : List Xp
  ask : Int
def flag (c : Bs) (p : P Unit) : P Bool := alt c (bnd p fun _ => ret true) (ret false)
def variable_ : P It :=
  bnd dom fun d => bnd (take [58]) fun _ => bnd name fun w => bnd (flag [58, 58] (take [111, 117, 116, 112, 117, 116, 95, 118, 97, 114])) fun o =>
    bnd (alt [61] (bnd plain fun y => ret [y.xp]) (ret [])) fun v => ret ⟨2, w, d.1, d.2, 0, o, v, 0⟩
def kind : P Bool := alt [98, 111, 111, 108] (ret true) (bnd (take [105, 110, 116]) fun _ => ret false)
def value (b : Bool) : P Pl := if b = true then alt [116, 114, 117, 101] (ret ⟨2, 1, nos⟩) (alt [102, 97, 108, 115, 101] (ret ⟨2, 0, nos⟩) wrong) else bnd integer fun i => ret ⟨1, i, nos⟩
def par : P It := bnd kind fun b => bnd (take [58]) fun _ => bnd name fun w => bnd (take [61]) fun _ => bnd (value b) fun y => ret ⟨1, w, b, [], 0, false, [y.xp], 0⟩
def outArr (m : Int) : P Unit :=
  bnd (take [111, 117, 116, 112, 117, 116, 95, 97, 114, 114, 97, 121]) fun _ => bnd (take [40]) fun _ => bnd (take [91]) fun _ => bnd (exact 1) fun _ => bnd (take [46, 46]) fun _ => bnd (exact m) fun _ => bnd (take [93]) fun _ => take [41]
def array : P It :=
  bnd (take [91]) fun _ => bnd (exact 1) fun _ => bnd (take [46, 46]) fun _ => bnd integer fun m => bnd (take [93]) fun _ => bnd (take [111, 102]) fun _ =>
    bnd (flag [118, 97, 114] (ret ())) fun v => bnd kind fun b => bnd (take [58]) fun _ => bnd name fun w =>
      bnd (if v = true then flag [58, 58] (outArr m) else ret false) fun o => bnd (take [61]) fun _ => bnd (take [91]) fun _ => bnd list fun l =>
        ret ⟨if v = true then 4 else 3, w, b, [], m, o, l.map Pl.xp, 0⟩
def constr : P It := bnd name fun w => bnd (take [40]) fun _ => bnd args fun l => ret ⟨5, w, false, [], 0, false, l, 0⟩
def solve : P It :=
  alt [115, 97, 116, 105, 115, 102, 121] (ret ⟨6, nos, false, [], 0, false, [], 0⟩)
    (alt [109, 105, 110, 105, 109, 105, 122, 101] (bnd name fun w => ret ⟨6, w, false, [], 0, false, [], 1⟩)
      (alt [109, 97, 120, 105, 109, 105, 122, 101] (bnd name fun w => ret ⟨6, w, false, [], 0, false, [], 2⟩) wrong))
def item : P It := alt [118, 97, 114] variable_ (alt [97, 114, 114, 97, 121] array (alt [99, 111, 110, 115, 116, 114, 97, 105, 110, 116] constr (alt [115, 111, 108, 118, 101] solve par)))
end Go.Proofs.Ytilgmkhcpmegjaa.Ps
end
