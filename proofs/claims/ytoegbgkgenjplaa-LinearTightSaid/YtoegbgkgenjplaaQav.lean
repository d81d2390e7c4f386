/- Layer 11 (sense): the landed place. Layer 11 (sense): a list of integers copied by append, and stored into. -/
import Derived.Test.YtoegbgkgenjplaaQat
set_option linter.unusedVariables false
set_option linter.unusedSimpArgs false
section
namespace Go.Proofs.Ytoegbgkgenjplaa.Sn
open Go.RowKit
open Go.Proofs.Ytoegbgkgenjplaa.Dig Go.Proofs.Ytoegbgkgenjplaa.Lx Go.Proofs.Ytoegbgkgenjplaa.Tk Go.Proofs.Ytoegbgkgenjplaa.Ti Go.Proofs.Ytoegbgkgenjplaa.Zs Go.Proofs.Ytoegbgkgenjplaa.Tr
theorem Wide.not {v v' : Value} {w w' : World} (k : Wide v v' w w') {b : Nat} (hb : b < w.heap.size) (h : v.ownBlock ≠ some b) : v'.ownBlock ≠ some b := by
  rcases k.2 with e | e
  · rw [e]; exact h
  · rw [e]; intro e2; injection e2 with e2; omega
/-- ends in a constraint with its values beside it, or in none -/
def RetPl (R : Bool) (c : Cn) (vs : List Int) (w : World) (e : Ending) (w' : World) : Prop :=
  if R = true then ∃ u, e = .returned (.tuple #[u, .bool true]) ∧ PlAt w' u c.k c.x c.a c.c vs ∧ Since w w'
  else e = .returned (.tuple #[.agg #[.int .i64 0, .slice none 0 0, .slice none 0 0, .int .i64 0, .slice none 0 0], .bool false]) ∧ Since w w'
theorem RetPl.no {R : Bool} {c : Cn} {vs : List Int} {w w' : World} (h : false = R) (k : Since w w') : RetPl R c vs w (.returned (.tuple #[.agg #[.int .i64 0, .slice none 0 0, .slice none 0 0, .int .i64 0, .slice none 0 0], .bool false])) w' := by
  subst h; exact ⟨rfl, k⟩
end Go.Proofs.Ytoegbgkgenjplaa.Sn
end
section
namespace Go.Proofs.Ytoegbgkgenjplaa.Sn
open Go.RowKit
open Go.Proofs.Ytoegbgkgenjplaa.Dig Go.Proofs.Ytoegbgkgenjplaa.Lx Go.Proofs.Ytoegbgkgenjplaa.Tk Go.Proofs.Ytoegbgkgenjplaa.Ti Go.Proofs.Ytoegbgkgenjplaa.Zs Go.Proofs.Ytoegbgkgenjplaa.Tr
/-- the cells begin with these integers -/
def Beg (cur : Array Value) (l : List Int) : Prop := ∀ (i : Nat) (x : Int), l[i]? = some x → cur[i]? = some (Value.int IntKind.i64 x)
theorem sl_bx {W : World} {g : Nat} {cur : Array Value} {e : TypeId} {l : List Int} {n c : Nat} (h : Bx W g cur e) (hn : l.length = n) (hc : n ≤ c) (hh : Beg cur l) : Sl 1 QI W (.slice (some ⟨g, 0, none⟩) n c) l := by
  subst hn
  refine ⟨some ⟨g, 0, none⟩, c, rfl, hc, fun _ => ⟨g, 0, rfl, fun i x hx => ⟨[.int .i64 x], rfl, rfl, fun j y hy => ?_⟩⟩⟩
  match j, hy with
  | 0, hy =>
    cases hy
    rw [show 0 + i * 1 + 0 = i by omega, h.cell i]
    exact hh i x hx
  | j + 1, hy => simp at hy
theorem cur_set {cur : Array Value} {l : List Int} (hh : Beg cur l) {k : Nat} (hk : k < l.length) (y : Int) : Beg (cur.setIfInBounds k (Value.int IntKind.i64 y)) (l.set k y) := by
  intro i x hx
  have hks : k < cur.size := by
    have := hh k l[k] (by simp [hk])
    apply Decidable.byContradiction; intro hn
    rw [Array.getElem?_eq_none (by omega)] at this; cases this
  by_cases e : i = k
  · subst e
    rw [List.getElem?_set_self hk] at hx
    cases hx
    simp [hks]
  · rw [List.getElem?_set_ne (by omega)] at hx
    rw [Array.getElem?_setIfInBounds_ne (by omega)]
    exact hh i x hx
end Go.Proofs.Ytoegbgkgenjplaa.Sn
end
