/- Layer 10 (trail), pure: a store as the document has it: its domains, what they were at each level, which changed. -/
import Derived.Test.YtfcinefmnigacaaEa
namespace Go.Proofs.Ytfcinefmnigacaa.Tr
set_option linter.unusedVariables false
set_option linter.unusedSimpArgs false
open Go.Proofs.Ytfcinefmnigacaa.Zs

abbrev Ds := List (List Rn)
structure Sto where
  D : Ds
  W : List Ds
  F : List Bool
/-- may there be a store of such domains? -/
def rightD (ds : Ds) : Bool := ds.all (fun d => right d && !d.isEmpty) && decide (ds.length ≤ 64)
def newD (ds : Ds) : Sto := ⟨ds, [], List.replicate ds.length false⟩
def atD (s : Sto) (x : Nat) : List Rn := s.D.getD x []
/-- what comes of a domain, of a set, of a place that is there: the place's new domain, or an error -/
def narrow1 (a d : List Rn) : List Rn × Bool × Int :=
  if (meet a d).isEmpty = true then (a, false, 12) else if same (meet a d) a = true then (a, false, 0) else (meet a d, true, 0)
def narrowD (s : Sto) (x : Int) (d : List Rn) : Sto × Bool × Int :=
  if x < 0 ∨ (s.D.length : Int) ≤ x ∨ right d = false then (s, false, 2)
  else if (meet (atD s x.toNat) d).isEmpty = true then (s, false, 12)
  else if same (meet (atD s x.toNat) d) (atD s x.toNat) = true then (s, false, 0)
  else (⟨s.D.set x.toNat (meet (atD s x.toNat) d), s.W, s.F.set x.toNat true⟩, true, 0)
def pushD (s : Sto) : Sto × Int := if 512 ≤ s.W.length then (s, 3) else (⟨s.D, s.W ++ [s.D], s.F⟩, 0)
def popD (s : Sto) : Sto × Int :=
  match s.W.getLast? with
  | none => (s, 11)
  | some ds => (⟨ds, s.W.dropLast, List.replicate ds.length false⟩, 0)
/-- the places that changed, from i on -/
def told : Nat → List Bool → List Int
  | _, [] => []
  | i, b :: r => (if b = true then [(i : Int)] else []) ++ told (i + 1) r
def changedD (s : Sto) : Sto × List Int := (⟨s.D, s.W, List.replicate s.D.length false⟩, told 0 s.F)
/-- what holds of a store at all times -/
structure Ok (s : Sto) : Prop where
  D : ∀ d ∈ s.D, right d = true ∧ d ≠ [] ∧ d.length ≤ 1100000
  n : s.D.length ≤ 64
  W : ∀ ds ∈ s.W, ds.length = s.D.length ∧ ∀ d ∈ ds, right d = true ∧ d ≠ [] ∧ d.length ≤ 1100000
  F : s.F.length = s.D.length
  lv : s.W.length ≤ 512
theorem told_append (i : Nat) (a b : List Bool) : told i (a ++ b) = told i a ++ told (i + a.length) b := by
  induction a generalizing i with
  | nil => simp [told]
  | cons c a ih => rw [List.cons_append, told, ih, told, List.append_assoc, List.length_cons, show i + 1 + a.length = i + (a.length + 1) by omega]
theorem told_none (i n : Nat) : told i (List.replicate n false) = [] := by
  induction n generalizing i with
  | zero => rfl
  | succ n ih => rw [List.replicate_succ, told, ih]; rfl
theorem set_take {α : Type} {l : List α} {k x : Nat} {m : α} (h : k < l.length) : (l.set x m).take (k + 1) = (l.set x m).take k ++ [if k = x then m else l[k]] := by
  rw [List.take_succ_eq_append_getElem (by simpa using h), List.getElem_set]
  congr 2
  by_cases e : x = k
  · rw [if_pos e, if_pos e.symm]
  · rw [if_neg e, if_neg (fun h => e h.symm)]
end Go.Proofs.Ytfcinefmnigacaa.Tr
