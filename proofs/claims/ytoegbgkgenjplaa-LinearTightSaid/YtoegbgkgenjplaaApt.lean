/- An append of tokens, none of them too, to a row of the call's own, behind a guard that says yes. No code is sp -/
import Derived.BigFrame
import Derived.Laws.AppendOwn
import Derived.Test.YtoegbgkgenjplaaTk
namespace Go.Proofs.Ytoegbgkgenjplaa.Tk
open Go.RowKit
set_option linter.unusedVariables false
theorem run_append_nil {P : Program} {w : World} {base : Nat} {t ty e : TypeId} {i : TypeInfo} {size : Nat} (ht : P.underlying t = some (.slice e)) (hi : P.info? e = some i)
    {v : Value} {n : Nat} {xs : List Value} (hown : w.ownsRow base e size v n xs) (c : Nat) : (Builtin.append_ #[t, t] ty #[v, .slice none 0 c]).run P w = .ok v w := by
  rcases hown.2 with ⟨rfl, rfl⟩ | ⟨g, cap, cur, rfl, _, _, hnc, _⟩
  · simp [Builtin.append_, run_underlying ht, sizeOf, typeInfo, hi, Builtin.lenOf, Builtin.firstCells]
  · simp [Builtin.append_, run_underlying ht, sizeOf, typeInfo, hi, Builtin.lenOf, Builtin.firstCells, hnc, storeCells]
/-- the cells of a slice's tokens -/
theorem Toks.cells {w : World} {b o m c : Nat} {ts : List Tv} (h : Toks w (.slice (some ⟨b, o, none⟩) m c) ts) : ∀ j u, (tcells ts)[j]? = some u → w.cell? ((⟨b, o, none⟩ : Addr).add j) = some u := by
  intro j u hj
  rw [add_at]
  have hl : j < (tcells ts).length := by
    apply Decidable.byContradiction; intro hn
    rw [List.getElem?_eq_none (by omega)] at hj; cases hj
  rw [tcells_len] at hl
  obtain ⟨b', o', e, h1, h2, h3, h4⟩ := h.el (i := j / 4) (by omega)
  injection e with e
  injection e with e1 e2
  subst e1 e2
  have ej : j = j / 4 * 4 + j % 4 := by omega
  have hg := tcells_get ts (j / 4) (j % 4) (by omega) (by omega)
  rw [← ej] at hg
  rw [hg] at hj
  have hr : j % 4 = 0 ∨ j % 4 = 1 ∨ j % 4 = 2 ∨ j % 4 = 3 := by omega
  rcases hr with hr | hr | hr | hr <;> rw [hr] at hj ej <;> injection hj with hj <;> subst hj
  · rw [show o + j = o + j / 4 * 4 by omega]; exact h1
  · rw [show o + j = o + j / 4 * 4 + 1 by omega]; exact h2
  · rw [show o + j = o + j / 4 * 4 + 2 by omega]; exact h3
  · rw [show o + j = o + j / 4 * 4 + 3 by omega]; exact h4
end Go.Proofs.Ytoegbgkgenjplaa.Tk
