/- Layer 11 (sense): the law's own small functions. -/
import Derived.Test.YtakfabaocgbbmaaUl
namespace Go.Proofs.Ytakfabaocgbbmaa.Sn
open Go.RowKit
set_option linter.unusedVariables false
set_option linter.unusedSimpArgs false
open Go.Proofs.Ytakfabaocgbbmaa.Dig Go.Proofs.Ytakfabaocgbbmaa.Lx Go.Proofs.Ytakfabaocgbbmaa.Tk Go.Proofs.Ytakfabaocgbbmaa.Ti Go.Proofs.Ytakfabaocgbbmaa.Zs Go.Proofs.Ytakfabaocgbbmaa.Tr

def fitsL (c : Cn) (a : List Int) : Bool := decide (c.x.length ≤ 200) && decide (c.a.length ≤ 200) && decide (a.length ≤ 200)
theorem fitsL_parts {c : Cn} {a : List Int} (h : fitsL c a = true) : c.x.length ≤ 200 ∧ c.a.length ≤ 200 ∧ a.length ≤ 200 := by
  simp only [fitsL, Bool.and_eq_true, decide_eq_true_eq] at h; exact ⟨h.1.1, h.1.2, h.2⟩
set_option maxRecDepth 20000 in
set_option maxHeartbeats 2000000 in
theorem fits_any (v va : Value) (c : Cn) (a : List Int) (w : World) (h : ConAt w v c) (ha : Sl 1 QI w va a) (hx : c.x.length ≤ 9223372036854775807) (hc : c.a.length ≤ 9223372036854775807) (hl : a.length ≤ 9223372036854775807) :
    Calls Try.prog 26 #[v, va] w (RetT (fitsL c a) w) := by
  obtain ⟨vx, vy, rfl, h1, h2⟩ := h
  obtain ⟨X, xc, rfl⟩ := h1.form
  obtain ⟨Y, yc, rfl⟩ := h2.form
  obtain ⟨A, ac, rfl⟩ := ha.form
  have e : fitsL c a = (decide (c.x.length ≤ 200) && decide (c.a.length ≤ 200) && decide (a.length ≤ 200)) := rfl
  rw [e]
  generalize c.x.length = nx at *
  generalize c.a.length = na at *
  generalize a.length = nl at *
  have ka := Lib.hid (since_alloc w (.cells #[.int .i64 c.k, .slice X nx xc, .slice Y na yc, .int .i64 c.c] 25))
  clear h1 h2 ha e
  by_cases c1 : nx ≤ 200
  · rw [decide_eq_true c1, Bool.true_and]
    by_cases c2 : na ≤ 200
    · rw [decide_eq_true c2, Bool.true_and]
      by_cases c3 : nl ≤ 200
      · rw [decide_eq_true c3]
        go_enter Try.func26, Try.ntmps26
        go_wp2
        go_ret
        exact .of (by rw [decide_eq_true_iff]; omega) ka.out
      · rw [decide_eq_false c3]
        go_enter Try.func26, Try.ntmps26
        go_wp2
        go_ret
        exact .of (by rw [decide_eq_false_iff_not]; omega) ka.out
    · rw [decide_eq_false c2, Bool.false_and]
      go_enter Try.func26, Try.ntmps26
      go_wp2
      go_ret
      exact ⟨rfl, ka.out⟩
  · rw [decide_eq_false c1, Bool.false_and, Bool.false_and]
    go_enter Try.func26, Try.ntmps26
    go_wp2
    go_ret
    exact ⟨rfl, ka.out⟩
end Go.Proofs.Ytakfabaocgbbmaa.Sn
