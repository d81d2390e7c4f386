/- Plain facts on 64-bit numbers: what fits, what wraps, what a product and a quotient are. No Go in sight. -/
import Derived.WalkKit
import Derived.OpenShut
namespace Go.Proofs.Ytodianconjkpoaa.Num
open Go.RowKit

/-- the number is one of 64 bits -/
def fits (n : Int) : Bool := decide (-9223372036854775808 ≤ n ∧ n ≤ 9223372036854775807)

theorem fits_of {n : Int} (h : -9223372036854775808 ≤ n ∧ n ≤ 9223372036854775807) : fits n = true := by simp [fits, h]
theorem of_fits {n : Int} (h : fits n = true) : -9223372036854775808 ≤ n ∧ n ≤ 9223372036854775807 := by simpa [fits] using h
theorem not_fits {n : Int} (h : fits n = false) : n < -9223372036854775808 ∨ 9223372036854775807 < n := by
  simp [fits] at h; omega
theorem fits_wf {n : Int} (h : (Lit.int .i64 n).wf = true) : fits n = true := by
  exact fits_of (bounds_i64 h)

/-- the value where it fits, else nothing -/
def val (n : Int) : Int := if fits n = true then n else 0
/-- the error: none where it fits, else 4 -/
def err (n : Int) : Int := if fits n = true then 0 else 4

theorem val_in {n : Int} (h : fits n = true) : val n = n := by simp [val, h]
theorem val_out {n : Int} (h : fits n = false) : val n = 0 := by simp [val, h]
theorem err_in {n : Int} (h : fits n = true) : err n = 0 := by simp [err, h]
theorem err_out {n : Int} (h : fits n = false) : err n = 4 := by simp [err, h]
theorem fits_val (n : Int) : fits (val n) = true := by
  unfold val; split
  · assumption
  · decide

theorem wrap_in {n : Int} (h : fits n = true) : wrap64 n = n := by
  have := of_fits h; unfold wrap64; omega
theorem wrap_fits (n : Int) : fits (wrap64 n) = true := by
  apply fits_of; unfold wrap64; omega

/-- two numbers as one result -/
abbrev two (v e : Int) : Ending := .returned (.tuple #[.int .i64 v, .int .i64 e])
theorem two_eq {v e v' e' : Int} (h1 : v = v') (h2 : e = e') : two v e = two v' e' := by rw [h1, h2]

theorem add_over {a b : Int} (ha : fits a = true) (hb : fits b = true) (h : (!decide (a < wrap64 (a + b)) == decide (0 < b)) = true) : fits (a + b) = false := by
  have h1 := of_fits ha
  have h2 := of_fits hb
  by_cases c1 : a < wrap64 (a + b) <;> by_cases c2 : 0 < b <;> simp [c1, c2] at h <;> (unfold wrap64 at c1; simp [fits]; omega)
theorem add_in {a b : Int} (ha : fits a = true) (hb : fits b = true) (h : (!decide (a < wrap64 (a + b)) == decide (0 < b)) = false) : fits (a + b) = true := by
  have h1 := of_fits ha
  have h2 := of_fits hb
  by_cases c1 : a < wrap64 (a + b) <;> by_cases c2 : 0 < b <;> simp [c1, c2] at h <;> (unfold wrap64 at c1; simp [fits]; omega)
theorem sub_over {a b : Int} (ha : fits a = true) (hb : fits b = true) (h : (!decide (wrap64 (a - b) < a) == decide (0 < b)) = true) : fits (a - b) = false := by
  have h1 := of_fits ha
  have h2 := of_fits hb
  by_cases c1 : wrap64 (a - b) < a <;> by_cases c2 : 0 < b <;> simp [c1, c2] at h <;> (unfold wrap64 at c1; simp [fits]; omega)
theorem sub_in {a b : Int} (ha : fits a = true) (hb : fits b = true) (h : (!decide (wrap64 (a - b) < a) == decide (0 < b)) = false) : fits (a - b) = true := by
  have h1 := of_fits ha
  have h2 := of_fits hb
  by_cases c1 : wrap64 (a - b) < a <;> by_cases c2 : 0 < b <;> simp [c1, c2] at h <;> (unfold wrap64 at c1; simp [fits]; omega)

theorem tdiv_bounds (p b : Int) (hp : fits p = true) (hx : ¬ (p = -9223372036854775808 ∧ b = -1)) : fits (p.tdiv b) = true := by
  have h := Int.natAbs_tdiv p b
  have hp' := of_fits hp
  have hle : p.natAbs.div b.natAbs ≤ p.natAbs := Nat.div_le_self _ _
  by_cases h0 : b = 0
  · subst h0; simp; decide
  by_cases h1 : b = 1
  · subst h1; simpa using hp
  by_cases h2 : b = -1
  · subst h2
    have : p.tdiv (-1) = - p := by rw [Int.tdiv_neg]; simp
    rw [this]; apply fits_of; omega
  · have h3 : p.natAbs.div b.natAbs ≤ p.natAbs / 2 := Nat.div_le_div_left (by omega) (by omega)
    apply fits_of; omega

/-- the product, divided, gives the factor back exactly where it fits -/
theorem mul_back (a b : Int) (ha : fits a = true) (hb : fits b = true) (h0 : b ≠ 0) (hx : ¬ (a = -9223372036854775808 ∧ b = -1)) :
    (wrap64 ((wrap64 (a * b)).tdiv b) = a) ↔ fits (a * b) = true := by
  constructor
  · intro h
    have ha' := of_fits ha
    have hb' := of_fits hb
    by_cases hl : wrap64 (a * b) = -9223372036854775808 ∧ b = -1
    · obtain ⟨h1, h2⟩ := hl
      rw [h1, h2] at h
      exact absurd ⟨h.symm.trans (by unfold wrap64; decide), h2⟩ hx
    · have hf := tdiv_bounds (wrap64 (a * b)) b (wrap_fits _) hl
      rw [wrap_in hf] at h
      have hm := Int.mul_tdiv_add_tmod (wrap64 (a * b)) b
      have hn := Int.natAbs_tmod (wrap64 (a * b)) b
      have hlt : (wrap64 (a * b)).natAbs % b.natAbs < b.natAbs := Nat.mod_lt _ (by omega)
      rw [h, Int.mul_comm b a] at hm
      generalize (wrap64 (a * b)).tmod b = m at *
      generalize hy : a * b = y at *
      rw [← hn] at hlt
      apply fits_of
      unfold wrap64 at hm
      omega
  · intro h
    rw [wrap_in h, Int.mul_tdiv_cancel a h0, wrap_in ha]

/-- the quotient cut toward nought, and what is left -/
def quo (a b : Int) : Int := a.tdiv b
def rem (a b : Int) : Int := a.tmod b
theorem quo_eq (a b : Int) : a.tdiv b = quo a b := rfl
theorem rem_eq (a b : Int) : a.tmod b = rem a b := rfl
theorem quo_fits {a b : Int} (ha : fits a = true) (hx : ¬ (a = -9223372036854775808 ∧ b = -1)) : fits (quo a b) = true := tdiv_bounds a b ha hx
theorem quo_rem (a b : Int) : b * quo a b + rem a b = a := Int.mul_tdiv_add_tmod a b
theorem rem_small {a b : Int} (hb : b ≠ 0) : (rem a b).natAbs < b.natAbs := by
  unfold rem; rw [Int.natAbs_tmod]; exact Nat.mod_lt _ (by omega)
theorem rem_sign (a b : Int) : (0 ≤ a → 0 ≤ rem a b) ∧ (a ≤ 0 → rem a b ≤ 0) := by
  unfold rem
  refine ⟨fun h => Int.tmod_nonneg b h, fun h => ?_⟩
  have h1 : (-a).tmod b = -(a.tmod b) := by rw [Int.neg_tmod]
  have h2 := Int.tmod_nonneg b (show 0 ≤ -a by omega)
  omega
theorem quo_half {a b : Int} (ha : fits a = true) (hr : rem a b ≠ 0) : -4611686018427387904 ≤ quo a b ∧ quo a b ≤ 4611686018427387904 := by
  have ha' := of_fits ha
  have h := Int.natAbs_tdiv a b
  by_cases h0 : b = 0
  · subst h0; simp [quo]
  have hs := rem_small (a := a) h0
  have h3 : a.natAbs.div b.natAbs ≤ a.natAbs / 2 := Nat.div_le_div_left (by omega) (by omega)
  unfold quo
  omega

/-- what a division is refused for -/
def dbad (a b : Int) : Int := if b = 0 then 2 else if a = -9223372036854775808 ∧ b = -1 then 4 else 0
/-- rounded down, rounded up -/
def flo (a b : Int) : Int := if dbad a b ≠ 0 then 0 else if rem a b ≠ 0 ∧ ¬ (a < 0 ↔ b < 0) then quo a b - 1 else quo a b
def cei (a b : Int) : Int := if dbad a b ≠ 0 then 0 else if rem a b ≠ 0 ∧ (a < 0 ↔ b < 0) then quo a b + 1 else quo a b
theorem dbad_zero (a : Int) : dbad a 0 = 2 := by simp [dbad]
theorem dbad_over : dbad (-9223372036854775808) (-1) = 4 := by decide
theorem dbad_ok {a b : Int} (h0 : b ≠ 0) (hx : ¬ (a = -9223372036854775808 ∧ b = -1)) : dbad a b = 0 := by
  unfold dbad; rw [if_neg h0, if_neg hx]
theorem rem_neg {a b : Int} (h : rem a b ≠ 0) : (rem a b < 0) ↔ (a < 0) := by
  have := rem_sign a b; omega

end Go.Proofs.Ytodianconjkpoaa.Num
