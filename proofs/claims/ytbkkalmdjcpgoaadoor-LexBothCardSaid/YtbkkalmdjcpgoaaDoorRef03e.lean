/- What the document's own fit, Add, Mul of layer 3 give back. -/
import Derived.Test.YtbkkalmdjcpgoaaDoorRef03d
namespace Go.Proofs.YtbkkalmdjcpgoaaDoor.Ref03
open Go.RowKit
set_option linter.unusedVariables false
open Go.Proofs.YtbkkalmdjcpgoaaDoor.Dig

theorem sum_any (A0 A1 : Option Addr) (c0 c1 : Nat) (na nb : Bool) (xs ys : List Nat) (w : World) (hx : Row w (.slice A0 xs.length c0) xs) (hy : Row w (.slice A1 ys.length c1) ys) (lx : xs.length ≤ 1000) (ly : ys.length ≤ 1000) (nx : Norm xs) (ny : Norm ys) :
    Calls Tryd.prog 36 #[sv na (.slice A0 xs.length c0), sv nb (.slice A1 ys.length c1)] w (RetS (ngB (sval na xs + sval nb ys)) (mag (sval na xs + sval nb ys)) w) := by
  by_cases hs : (na == nb) = true
  · have h := sum_eq A0 A1 c0 c1 na nb xs ys w hx hy lx ly hs
    have e : na = nb := by simpa using hs
    subst e
    have e1 : digs (num xs + num ys) = mag (sval na xs + sval na ys) := by
      unfold mag sval; congr 1; cases na <;> simp <;> omega
    rw [e1, sign_mag _ na (fun hz => by
      unfold ngB sval at *
      cases na
      · simp; omega
      · simp at hz ⊢; omega)] at h
    exact h
  · have hs' : (na == nb) = false := by simpa using hs
    have el := lessB_norm hx.dig hy.dig nx ny
    by_cases hc : num xs < num ys
    · rw [decide_eq_true hc] at el
      have h := sum_lt_ A0 A1 c0 c1 na nb xs ys w hx hy lx ly hs' el (norm_len_le hy.dig nx (by omega)) (by omega)
      have e1 : digs (num ys - num xs) = mag (sval na xs + sval nb ys) := by
        unfold mag sval; congr 1; cases na <;> cases nb <;> simp at hs' ⊢ <;> omega
      rw [e1, sign_mag _ nb (fun hz => by
        unfold ngB sval at *
        cases na <;> cases nb <;> simp at hs' hz ⊢ <;> omega)] at h
      exact h
    · rw [decide_eq_false hc] at el
      have h := sum_ge_ A0 A1 c0 c1 na nb xs ys w hx hy lx ly hs' el (norm_len_le hx.dig ny (by omega)) (by omega)
      have e1 : digs (num xs - num ys) = mag (sval na xs + sval nb ys) := by
        unfold mag sval; congr 1; cases na <;> cases nb <;> simp at hs' ⊢ <;> omega
      rw [e1, sign_mag _ na (fun hz => by
        unfold ngB sval at *
        cases na <;> cases nb <;> simp at hs' hz ⊢ <;> omega)] at h
      exact h
end Go.Proofs.YtbkkalmdjcpgoaaDoor.Ref03
