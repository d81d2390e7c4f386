/- Layer 12 (linear), pure: smaller domains lead to smaller ones. A slice of tokens that came in reads as a list  -/
import Derived.Test.YtoegbgkgenjplaaLq
import Derived.ChangeSame
import Derived.Deep.Fields
import Derived.Deep.Slices
import Derived.OpenShut
set_option linter.unusedVariables false
set_option linter.unusedSimpArgs false
section
namespace Go.Proofs.Ytoegbgkgenjplaa.Ln
open Go.Proofs.Ytoegbgkgenjplaa.Zs Go.Proofs.Ytoegbgkgenjplaa.Sn
section
variable {D D' : Ds} (h : Gd D) (h' : Gd D') (hs : Sub D' D)
include h h' hs
end
theorem mn_pos {n l u : Int} (hn : 0 < n) (h : l ≤ u) : min (n * l) (n * u) = n * l := by
  have : n * l ≤ n * u := Int.mul_le_mul_of_nonneg_left h (by omega)
  omega
theorem mn_neg {n l u : Int} (hn : n < 0) (h : l ≤ u) : min (n * l) (n * u) = n * u := by
  have h2 : (-n) * l ≤ (-n) * u := Int.mul_le_mul_of_nonneg_left h (by omega)
  rw [Int.neg_mul, Int.neg_mul] at h2
  omega
end Go.Proofs.Ytoegbgkgenjplaa.Ln
end
section
namespace Go.Proofs.Ytoegbgkgenjplaa.Tk
open Go.RowKit Go.ChangeShapes Go.WideShapes Go.Deep
section
variable {H : Type} {enc : TypeId × Value → H} {P : Program} {w : World} {base : Nat} {spare : Nat → Bool} {held : Bool}
theorem list_of {α : Type} (d : α) {p : Nat → α → Prop} : ∀ n, (∀ i, i < n → ∃ x, p i x) → ∃ l : List α, l.length = n ∧ ∀ i, i < n → p i (l.getD i d)
  | 0, _ => ⟨[], rfl, fun i h => by omega⟩
  | n + 1, h => by
    obtain ⟨l, hl, hp⟩ := list_of d n (fun i hi => h i (by omega))
    obtain ⟨x, hx⟩ := h n (by omega)
    refine ⟨l ++ [x], by simp [hl], fun i hi => ?_⟩
    by_cases hin : i < n
    · have e : (l ++ [x]).getD i d = l.getD i d := by simp [List.getD, List.getElem?_append_left (show i < l.length by omega)]
      rw [e]; exact hp i hin
    · obtain rfl : i = n := by omega
      have e : (l ++ [x]).getD i d = x := by simp [List.getD, ← hl]
      rw [e]; exact hx
end
end Go.Proofs.Ytoegbgkgenjplaa.Tk
end
