/- Layer 11 (sense), pure: constraints and models, which may be. -/
import Derived.Test.YtoegbgkgenjplaaEa
namespace Go.Proofs.Ytoegbgkgenjplaa.Sn
set_option linter.unusedVariables false
open Go.Proofs.Ytoegbgkgenjplaa.Zs
/-- a constraint; a model -/
structure Cn where
  k : Int
  x : List Int
  a : List Int
  c : Int
structure Md where
  ds : List (List Rn)
  cs : List Cn
  ask : Int
  goal : Int
/-- as many variables and numbers as the kind asks -/
def shp (k : Int) (n m : Nat) : Bool :=
  if k = 1 ∨ k = 2 ∨ k = 3 ∨ k = 11 then decide (n = m)
  else if k = 4 ∨ k = 5 ∨ k = 6 then decide (n = m + 1)
  else if k = 7 ∨ k = 8 ∨ k = 9 ∨ k = 14 then decide (n = 3 ∧ m = 0)
  else if k = 10 ∨ k = 15 then decide (n = 2 ∧ m = 0)
  else if k = 12 ∨ k = 13 then decide (1 ≤ n ∧ m = 0)
  else if k = 16 then decide (n = 2 ∧ 1 ≤ m ∧ m ≤ 64)
  else if k = 17 then decide (3 ≤ n ∧ m = 0)
  else if k = 18 then decide (m = 0)
  else if k = 19 then decide (m = 2 * n)
  else false
/-- the kinds -/
inductive Kd : Int → Prop
  | k1 : Kd 1 | k2 : Kd 2 | k3 : Kd 3 | k4 : Kd 4 | k5 : Kd 5 | k6 : Kd 6 | k7 : Kd 7 | k8 : Kd 8 | k9 : Kd 9 | k10 : Kd 10 | k11 : Kd 11 | k12 : Kd 12 | k13 : Kd 13 | k14 : Kd 14
  | k15 : Kd 15 | k16 : Kd 16 | k17 : Kd 17 | k18 : Kd 18 | k19 : Kd 19
theorem kd_or (k : Int) : Kd k ∨ (k < 1 ∨ 19 < k) := by
  by_cases h : 1 ≤ k ∧ k ≤ 19
  · left
    obtain ⟨n, rfl⟩ : ∃ n : Nat, k = (n : Int) := ⟨k.toNat, by omega⟩
    have h1 : 1 ≤ n := by omega
    have h2 : n ≤ 19 := by omega
    match n, h1, h2 with
    | 1, _, _ => exact .k1
    | 2, _, _ => exact .k2
    | 3, _, _ => exact .k3
    | 4, _, _ => exact .k4
    | 5, _, _ => exact .k5
    | 6, _, _ => exact .k6
    | 7, _, _ => exact .k7
    | 8, _, _ => exact .k8
    | 9, _, _ => exact .k9
    | 10, _, _ => exact .k10
    | 11, _, _ => exact .k11
    | 12, _, _ => exact .k12
    | 13, _, _ => exact .k13
    | 14, _, _ => exact .k14
    | 15, _, _ => exact .k15
    | 16, _, _ => exact .k16
    | 17, _, _ => exact .k17
    | 18, _, _ => exact .k18
    | 19, _, _ => exact .k19
    | n + 20, _, h => omega
  · right; omega
theorem shp_out {k : Int} (h : k < 1 ∨ 19 < k) (n m : Nat) : shp k n m = false := by
  unfold shp
  repeat rw [if_neg (by omega)]
/-- the numbers of a clause are signs, those of tasks not below nought -/
def okE (k n : Int) : Bool := !(decide (k = 11) && decide (n ≠ 1) && decide (n ≠ -1) || decide (k = 19) && decide (n < 0))
def sgn (k : Int) (a : List Int) (c : Int) : Bool := a.all (okE k) && (decide (k ≠ 19) || decide (0 ≤ c))
def tak (k : Int) : Bool := decide (1 ≤ k ∧ k ≤ 6) || decide (k = 19)
/-- the places of those that must be truth values -/
def bools {α : Type} (k : Int) (x : List α) : List α :=
  if k = 4 ∨ k = 5 ∨ k = 6 then x.drop (x.length - 1) else if k = 11 ∨ k = 12 ∨ k = 13 ∨ k = 14 then x else []
def tru (d : List Rn) : Bool := decide (0 < d.length) && (decide (0 ≤ (d.getD 0 (0, 0)).1) && decide ((d.getD (d.length - 1) (0, 0)).2 ≤ 1))
def isV (n : Nat) (x : Int) : Bool := decide (0 ≤ x) && decide (x < n)
def domAt (ds : List (List Rn)) (x : Int) : List Rn := ds.getD x.toNat []
/-- what is asked of the numbers alone -/
def numOk (k : Int) (n : Nat) (a : List Int) (c : Int) : Bool := shp k n a.length && sgn k a c && decide (n ≤ 32) && a.all within && within c && (decide (c = 0) || tak k)
def conOk (ds : List (List Rn)) (c : Cn) : Bool := numOk c.k c.x.length c.a c.c && c.x.all (isV ds.length) && (bools c.k c.x).all (fun x => tru (domAt ds x))
def domOk (d : List Rn) : Bool := right d && decide (0 < d.length)
def reqOk (m : Md) : Bool := if m.ask = 0 then decide (m.goal = 0) else if m.ask = 1 ∨ m.ask = 2 then isV m.ds.length m.goal else false
def modOk (m : Md) : Bool := decide (m.ds.length ≤ 64) && decide (m.cs.length ≤ 64) && m.ds.all domOk && m.cs.all (conOk m.ds) && reqOk m
theorem shp_le {k : Int} {n m : Nat} (h : shp k n m = true) (hn : n ≤ 32) : m ≤ 64 := by
  unfold shp at h
  repeat (split at h; · simp only [decide_eq_true_eq] at h; omega)
  cases h
theorem shp_pos {k : Int} {n m : Nat} (h : shp k n m = true) (hk : k = 4 ∨ k = 5 ∨ k = 6) : n = m + 1 := by
  unfold shp at h
  rw [if_neg (by omega), if_pos hk] at h
  simpa using h
section
set_option linter.unusedVariables false
open Go.Proofs.Ytoegbgkgenjplaa.Zs
def valAt (a : List Int) (i : Int) : Int := a.getD i.toNat 0
def vals (x a : List Int) : List Int := x.map (valAt a)
def sing (v : List Int) : List (List Rn) := v.map fun n => [(n, n)]
def iot (n : Nat) : List Int := (List.range n).map Int.ofNat
def bit (n : Int) : Bool := decide (0 ≤ n) && decide (n ≤ 1)
/-- asked rightly, of these values -/
def askV (k : Int) (v a : List Int) (c : Int) : Bool := v.all within && numOk k v.length a c && (bools k v).all bit
def inR (x a : List Int) : Bool := x.all (isV a.length)
def asked (c : Cn) (a : List Int) : Bool := inR c.x a && askV c.k (vals c.x a) c.a c.c
theorem vals_len (x a : List Int) : (vals x a).length = x.length := by simp [vals]
theorem iot_len (n : Nat) : (iot n).length = n := by simp [iot]
theorem sing_len (v : List Int) : (sing v).length = v.length := by simp [sing]
theorem iot_snoc (n : Nat) : iot (n + 1) = iot n ++ [(n : Int)] := by simp [iot, List.range_succ]
theorem sing_snoc (v : List Int) (n : Int) : sing (v ++ [n]) = sing v ++ [[(n, n)]] := by simp [sing]
theorem bools_map {α β : Type} (f : α → β) (k : Int) (x : List α) : bools k (x.map f) = (bools k x).map f := by
  unfold bools
  rw [List.length_map]
  split
  · rw [List.map_drop]
  · split
    · rfl
    · rfl
theorem iot_vals (v : List Int) : (iot v.length).map (valAt v) = v := by
  apply List.ext_getElem
  · simp [iot]
  · intro i h1 h2
    simp [iot, valAt, h2]
theorem tru_one (n : Int) : tru [(n, n)] = bit n := by simp [tru, bit]
theorem tru_at {v : List Int} {x : Int} (h : isV v.length x = true) : tru (domAt (sing v) x) = bit (valAt v x) := by
  simp only [isV, Bool.and_eq_true, decide_eq_true_eq] at h
  have hx : x.toNat < v.length := by omega
  have e : domAt (sing v) x = [(v[x.toNat], v[x.toNat])] := by simp [domAt, sing, hx]
  rw [e, tru_one]
  simp [valAt, hx]
theorem iot_in (n : Nat) : (iot n).all (isV n) = true := by
  rw [List.all_eq_true]
  intro x hx
  simp only [iot, List.mem_map, List.mem_range] at hx
  obtain ⟨i, hi, rfl⟩ := hx
  simp [isV, hi]
theorem bools_mem {α : Type} {k : Int} {x : List α} {y : α} (h : y ∈ bools k x) : y ∈ x := by
  unfold bools at h
  split at h
  · exact List.mem_of_mem_drop h
  · split at h
    · exact h
    · cases h
theorem all_congr' {α : Type} {l : List α} {f g : α → Bool} (h : ∀ x ∈ l, f x = g x) : l.all f = l.all g := by
  induction l with
  | nil => rfl
  | cons a l ih => rw [List.all_cons, List.all_cons, h a (by simp), ih fun x hx => h x (by simp [hx])]
theorem bools_sing (k : Int) (v : List Int) : (bools k (iot v.length)).all (fun x => tru (domAt (sing v) x)) = (bools k v).all bit := by
  have e : bools k v = (bools k (iot v.length)).map (valAt v) := by rw [← bools_map, iot_vals]
  rw [e, List.all_map]
  refine all_congr' fun x hx => ?_
  rw [tru_at (List.all_eq_true.1 (iot_in v.length) x (bools_mem hx))]; rfl
theorem con_sing (k : Int) (v a : List Int) (c : Int) : (v.all within && conOk (sing v) ⟨k, iot v.length, a, c⟩) = askV k v a c := by
  simp only [conOk, askV, iot_len, sing_len, iot_in, bools_sing, Bool.and_true, Bool.and_assoc]
/-- the sum of products -/
def smF : List (Int × Int) → Int
  | [] => 0
  | p :: l => p.1 * p.2 + smF l
def sm (a v : List Int) : Int := smF (a.zip v)
def lastV (v : List Int) : Int := v.getD (v.length - 1) 0
def flg (v : List Int) : Bool := lastV v == 1
def other (v : List Int) : List Int := v.take (v.length - 1)
def litE (p : Int × Int) : Bool := (p.2 == 1) == (p.1 == 1)
def lits (a v : List Int) : Bool := (a.zip v).any litE
def chosen (v l : List Int) : Bool := decide (1 ≤ v.getD 0 0) && decide (v.getD 0 0 ≤ l.length) && (l.getD (v.getD 0 0 - 1).toNat 0 == lastV v)
def allI (n : Nat) (f : Nat → Bool) : Bool := (List.range n).all f
def differ (v : List Int) : Bool := allI v.length fun i => !(v.take i).contains (v.getD i 0)
abbrev Tk3 := Int × Int × Int
def tks (v a : List Int) : List Tk3 := v.zip ((a.take v.length).zip (a.drop v.length))
def ldE (t : Int) (p : Tk3) : Int := if p.1 ≤ t ∧ t < p.1 + p.2.1 then p.2.2 else 0
def ld (l : List Tk3) (t : Int) : Int := match l with | [] => 0 | p :: l => ldE t p + ld l t
def never (v a : List Int) (c : Int) : Bool := allI v.length fun i => decide (ld (tks v a) (v.getD i 0) ≤ c)
/-- whether it holds, if it is asked rightly -/
def holdV (k : Int) (v a : List Int) (c : Int) : Bool :=
  if k = 1 then sm a v == c
  else if k = 2 then decide (sm a v ≤ c)
  else if k = 3 then sm a v != c
  else if k = 4 then flg v == (sm a v == c)
  else if k = 5 then flg v == decide (sm a v ≤ c)
  else if k = 6 then !flg v || decide (sm a v ≤ c)
  else if k = 7 then v.getD 0 0 * v.getD 1 0 == v.getD 2 0
  else if k = 8 then min (v.getD 0 0) (v.getD 1 0) == v.getD 2 0
  else if k = 9 then max (v.getD 0 0) (v.getD 1 0) == v.getD 2 0
  else if k = 10 then max (v.getD 0 0) (-v.getD 0 0) == v.getD 1 0
  else if k = 15 then v.getD 0 0 == v.getD 1 0
  else if k = 11 then lits a v
  else if k = 12 then flg v == !(other v).contains 0
  else if k = 13 then flg v == (other v).contains 1
  else if k = 14 then flg v == (v.getD 0 0 != v.getD 1 0)
  else if k = 16 then chosen v a
  else if k = 17 then chosen v ((other v).drop 1)
  else if k = 18 then differ v
  else if k = 19 then never v a c
  else false
def holds (c : Cn) (a : List Int) : Bool := asked c a && holdV c.k (vals c.x a) c.a c.c
end
end Go.Proofs.Ytoegbgkgenjplaa.Sn
