/- A fraction that comes in is opened: its four cells. No code is spoken of. -/
import Derived.Test.YtbbemgeinlehmaaGreatDoorRows
import Derived.Lib.SmallJoins
import Derived.ProofKit
namespace Go.Proofs.YtbbemgeinlehmaaGreatDoor
open Go.Joins Go.ChangeShapes Go.WideShapes Go.Deep Go.ChangeAt
set_option linter.unusedVariables false
section
variable {H : Type} {enc : TypeId × Value → H} {P : Program} {w : World} {base : Nat} {spare : Nat → Bool} {held : Bool}
theorem four_of (T : Array Value) (h : T.size = 4) : ∃ v0 v1 v2 v3 : Value, T = #[v0, v1, v2, v3] := by
  obtain ⟨l⟩ := T
  match l, h with
  | [a, b, c, d], _ => exact ⟨a, b, c, d, rfl⟩
theorem two_cells {ti : TypeId} {g0 g1 : Field} {n : Nat} {c0 c1 : Value} {y : DataW H × List MemPlace} (hi : P.underlying ti = some (.struct #[g0, g1])) (hone : oneCellFields P #[g0, g1] = true) (h : DataW.trod enc P w base spare held n ti [c0, c1] = some y) :
    ∃ y0 y1 m, DataW.trod enc P w base spare held m g0.type [c0] = some y0 ∧ DataW.trod enc P w base spare held m g1.type [c1] = some y1 := by
  obtain ⟨y0, y1, m, hx, _, h0, h1⟩ := trod_struct2 hi h
  obtain ⟨o0, k0⟩ := hone_of hone 0 g0 rfl
  obtain ⟨o1, k1⟩ := hone_of hone 1 g1 rfl
  exact ⟨y0, y1, m, by simpa [o0, k0] using h0, by simpa [o1, k1] using h1⟩
/-- two numbers side by side -/
theorem open_rat {r : Reach} {b0 : Nat} {t : TypeId} {f0 f1 g0 g1 : Field} {v : Value} {d : DataW H} {p : List MemPlace} (hs : P.underlying t = some (.struct #[f0, f1])) (hi0 : P.underlying f0.type = some (.struct #[g0, g1])) (hi1 : P.underlying f1.type = some (.struct #[g0, g1]))
    (o0 : f0.offset = 0) (o1 : f1.offset = 2) (hC : P.cellsOf t = 4) (k0 : P.cellsOf f0.type = 2) (k1 : P.cellsOf f1.type = 2) (hone : oneCellFields P #[g0, g1] = true) (hv : Value.okWide P w r b0 t v) (h : DataW.Trod enc P w base spare held t v d p) :
    ∃ (c0 c1 c2 c3 : Value) (y0 y1 y2 y3 : DataW H × List MemPlace) (n m : Nat), v = .agg #[c0, c1, c2, c3] ∧ DataW.trod enc P w base spare held n g0.type [c0] = some y0 ∧ DataW.trod enc P w base spare held n g1.type [c1] = some y1 ∧
      DataW.trod enc P w base spare held m g0.type [c2] = some y2 ∧ DataW.trod enc P w base spare held m g1.type [c3] = some y3 := by
  obtain ⟨cs, rfl, hsz⟩ := okWide_struct hs hv
  obtain ⟨c0, c1, c2, c3, rfl⟩ := four_of _ (hsz.trans hC)
  obtain ⟨fuel, hf⟩ := h
  obtain ⟨x0, x1, n, hx, _, h0, h1⟩ := trod_struct2 hs hf
  have h0' : DataW.trod enc P w base spare held n f0.type [c0, c1] = some x0 := by simpa [Value.cells, o0, k0] using h0
  have h1' : DataW.trod enc P w base spare held n f1.type [c2, c3] = some x1 := by simpa [Value.cells, o1, k1] using h1
  obtain ⟨y0, y1, m, p0, p1⟩ := two_cells hi0 hone h0'
  obtain ⟨y2, y3, m', p2, p3⟩ := two_cells hi1 hone h1'
  exact ⟨c0, c1, c2, c3, y0, y1, y2, y3, m, m', rfl, p0, p1, p2, p3⟩
end
end Go.Proofs.YtbbemgeinlehmaaGreatDoor
