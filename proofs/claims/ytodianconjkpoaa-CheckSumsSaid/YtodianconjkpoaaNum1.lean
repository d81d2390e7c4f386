/- Plain facts on products held against quotients: what the document's own answer for a product asks. No Go in sight. -/
import Derived.Test.YtodianconjkpoaaNum
namespace Go.Proofs.Ytodianconjkpoaa.Num
open Go.RowKit

theorem pp {a b : Int} (ha : 0 < a) (hb : 0 < b) : (a ≤ 9223372036854775807 / b) ↔ fits (a * b) = true := by
  rw [Int.le_ediv_iff_mul_le hb]
  have h := Int.mul_pos ha hb
  constructor
  · intro h'; apply fits_of; omega
  · intro h'; exact (of_fits h').2
theorem tdiv_low {a : Int} (ha : 0 < a) : wrap64 (-Int.tdiv 9223372036854775808 a) = -(9223372036854775808 / a) := by
  rw [Int.tdiv_eq_ediv_of_nonneg (by omega)]
  have h1 : 9223372036854775808 / a ≤ 9223372036854775808 := Int.ediv_le_self _ (by omega)
  have h2 : 0 ≤ 9223372036854775808 / a := Int.ediv_nonneg (by omega) (by omega)
  apply wrap_in; apply fits_of; omega
theorem pn {a b : Int} (ha : 0 < a) (hb : b < 0) : (b < wrap64 (-Int.tdiv 9223372036854775808 a)) ↔ fits (a * b) = false := by
  rw [tdiv_low ha]
  have h := Int.mul_pos ha (show 0 < -b by omega)
  have h1 := Int.ediv_lt_iff_lt_mul (a := 9223372036854775808) (b := -b) ha
  rw [Int.mul_neg] at h
  rw [Int.mul_comm (-b) a, Int.mul_neg] at h1
  constructor
  · intro h'; have h3 := h1.mp (by omega); simp [fits]; omega
  · intro h'; have := not_fits h'; have h3 := h1.mpr (by omega); omega
theorem np {a b : Int} (ha : a < 0) (hb : 0 < b) : (a < wrap64 (-Int.tdiv 9223372036854775808 b)) ↔ fits (a * b) = false := by
  rw [pn hb ha, Int.mul_comm]
theorem tdiv_top {b : Int} (hb : b < 0) : wrap64 (Int.tdiv 9223372036854775807 b) = -(9223372036854775807 / (-b)) := by
  have e : Int.tdiv 9223372036854775807 b = -(9223372036854775807 / (-b)) := by
    have h := Int.tdiv_neg 9223372036854775807 (-b)
    rw [Int.neg_neg] at h
    rw [h, Int.tdiv_eq_ediv_of_nonneg (by omega)]
  rw [e]
  have h1 : 9223372036854775807 / (-b) ≤ 9223372036854775807 := Int.ediv_le_self _ (by omega)
  have h2 : 0 ≤ 9223372036854775807 / (-b) := Int.ediv_nonneg (by omega) (by omega)
  apply wrap_in; apply fits_of; omega
theorem nn {a b : Int} (ha : a < 0) (hb : b < 0) : (a < wrap64 (Int.tdiv 9223372036854775807 b)) ↔ fits (a * b) = false := by
  rw [tdiv_top hb]
  have h := Int.mul_pos (show 0 < -a by omega) (show 0 < -b by omega)
  have h1 := Int.ediv_lt_iff_lt_mul (a := 9223372036854775807) (b := -a) (show 0 < -b by omega)
  rw [Int.neg_mul_neg] at h h1
  constructor
  · intro h'; have h3 := h1.mp (by omega); simp [fits]; omega
  · intro h'; have := not_fits h'; have h3 := h1.mpr (by omega); omega

theorem radd_over {a b : Int} (ha : fits a = true) (hb : fits b = true) (h : 0 < b ∧ wrap64 (9223372036854775807 - b) < a ∨ b < 0 ∧ a < wrap64 (-9223372036854775808 - b)) : fits (a + b) = false := by
  have h1 := of_fits ha
  have h2 := of_fits hb
  unfold wrap64 at h; simp [fits]; omega
theorem radd_in {a b : Int} (ha : fits a = true) (hb : fits b = true) (h : (b ≤ 0 ∨ a ≤ wrap64 (9223372036854775807 - b)) ∧ (0 ≤ b ∨ wrap64 (-9223372036854775808 - b) ≤ a)) : fits (a + b) = true := by
  have h1 := of_fits ha
  have h2 := of_fits hb
  unfold wrap64 at h; simp [fits]; omega
theorem rsub_over {a b : Int} (ha : fits a = true) (hb : fits b = true) (h : b < 0 ∧ wrap64 (9223372036854775807 + b) < a ∨ 0 < b ∧ a < wrap64 (-9223372036854775808 + b)) : fits (a - b) = false := by
  have h1 := of_fits ha
  have h2 := of_fits hb
  unfold wrap64 at h; simp [fits]; omega
theorem rsub_in {a b : Int} (ha : fits a = true) (hb : fits b = true) (h : (0 ≤ b ∨ a ≤ wrap64 (9223372036854775807 + b)) ∧ (b ≤ 0 ∨ wrap64 (-9223372036854775808 + b) ≤ a)) : fits (a - b) = true := by
  have h1 := of_fits ha
  have h2 := of_fits hb
  unfold wrap64 at h; simp [fits]; omega
end Go.Proofs.Ytodianconjkpoaa.Num
