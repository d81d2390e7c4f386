/- Decimal digits in groups. No Go in sight. -/
import Derived.Test.YtkceldnljppflaaDoorN2M
namespace Go.Proofs.YtkceldnljppflaaDoor.Dig
set_option linter.unusedVariables false

/-- the m lowest decimal digits of a number, as bytes -/
def decsN : Nat → Nat → List Nat
  | 0, _ => []
  | m + 1, n => decsN m (n / 10) ++ [48 + n % 10]
theorem decsN_len (m n : Nat) : (decsN m n).length = m := by
  induction m generalizing n with
  | zero => rfl
  | succ m ih => simp [decsN, ih]
theorem decsN_cons (m n : Nat) : decsN (m + 1) n = (48 + n / 10 ^ m % 10) :: decsN m n := by
  induction m generalizing n with
  | zero => simp [decsN]
  | succ m ih =>
    rw [decsN, ih, decsN, List.cons_append, Nat.div_div_eq_div_mul, ← Nat.pow_succ']
theorem decsN_add (m k n : Nat) : decsN (m + k) n = decsN m (n / 10 ^ k) ++ decsN k n := by
  induction k generalizing n with
  | zero => simp [decsN]
  | succ k ih =>
    rw [← Nat.add_assoc, decsN, ih, decsN, ← List.append_assoc, Nat.div_div_eq_div_mul, ← Nat.pow_succ']
theorem decsN_lt (m n : Nat) : ∀ d ∈ decsN m n, d < 256 := by
  induction m generalizing n with
  | zero => intro d hd; simp [decsN] at hd
  | succ m ih =>
    intro d hd
    rw [decsN] at hd
    rcases List.mem_append.mp hd with hd | hd
    · exact ih _ d hd
    · simp at hd; omega
theorem decsN_mod (m n : Nat) : decsN m (n % 10 ^ m) = decsN m n := by
  induction m generalizing n with
  | zero => rfl
  | succ m ih =>
    rw [decsN, decsN]
    have e1 : n % 10 ^ (m + 1) / 10 = n / 10 % 10 ^ m := by
      rw [Nat.pow_succ', Nat.mod_mul_right_div_self]
    have e2 : n % 10 ^ (m + 1) % 10 = n % 10 := by
      rw [Nat.pow_succ', Nat.mod_mul_right_mod]
    rw [e1, e2, ih]
def bytesOf (ds : List Nat) : List UInt8 := ds.map UInt8.ofNat
theorem dropw_append (xs ys : List UInt8) : (xs ++ ys).dropWhile (· == 48) = if xs.dropWhile (· == 48) = [] then ys.dropWhile (· == 48) else xs.dropWhile (· == 48) ++ ys := by
  induction xs with
  | nil => simp
  | cons x r ih =>
    simp only [List.cons_append, List.dropWhile_cons]
    split
    · exact ih
    · simp
theorem dropw_zero (m : Nat) : (bytesOf (decsN m 0)).dropWhile (· == 48) = [] := by
  induction m with
  | zero => rfl
  | succ m ih =>
    rw [decsN, bytesOf, List.map_append, dropw_append]
    rw [show (List.map UInt8.ofNat (decsN m (0 / 10))).dropWhile (· == 48) = [] from ih, if_pos rfl]
    rfl
/-- without the noughts ahead they are the number's -/
theorem dropw_decs (m n : Nat) (h : n < 10 ^ m) : (bytesOf (decsN m n)).dropWhile (· == 48) = decs n := by
  induction m generalizing n with
  | zero =>
    have : n = 0 := by simpa using h
    subst this; rfl
  | succ m ih =>
    by_cases h0 : n = 0
    · subst h0; rw [dropw_zero]; rfl
    · rw [decsN, bytesOf, List.map_append, dropw_append]
      have h1 := ih (n / 10) (by rw [Nat.div_lt_iff_lt_mul (by omega)]; rw [Nat.pow_succ] at h; exact h)
      rw [show (List.map UInt8.ofNat (decsN m (n / 10))).dropWhile (· == 48) = decs (n / 10) from h1]
      rw [decs_pos h0]
      by_cases h2 : n / 10 = 0
      · rw [h2, decs_zero, if_pos rfl]
        have hne : (UInt8.ofNat (48 + n % 10) == 48) = false := by
          rw [beq_eq_false_iff_ne]
          intro e
          have := congrArg UInt8.toNat e
          rw [UInt8.toNat_ofNat'] at this
          simp at this
          omega
        show List.dropWhile _ [UInt8.ofNat (48 + n % 10)] = _
        rw [List.dropWhile_cons, hne]; rfl
      · rw [if_neg (by have := decs_ne h2; intro e; rw [e] at this; simp at this)]
        rfl
theorem ten_pow (c : Nat) : 4294967296 ^ c ≤ 10 ^ (10 * c) := by
  rw [Nat.pow_mul]
  exact Nat.pow_le_pow_left (by decide) _
theorem pow_lt_of {a b : Nat} (h : 10 ^ a < 10 ^ b) : a < b := by
  rcases Nat.lt_or_ge a b with h1 | h1
  · exact h1
  · have := Nat.pow_le_pow_right (n := 10) (by omega) h1; omega
/-- groups of nine -/
theorem group_next (M T : Nat) : M / 10 ^ (9 * T) / 1000000000 = M / 10 ^ (9 * (T + 1)) := by
  rw [Nat.div_div_eq_div_mul, show 9 * (T + 1) = 9 * T + 9 by omega, Nat.pow_add]
theorem group_text (M T : Nat) : decsN (9 * (T + 1)) M = decsN 9 (M / 10 ^ (9 * T) % 1000000000) ++ decsN (9 * T) M := by
  rw [show 9 * (T + 1) = 9 + 9 * T by omega, decsN_add]
  congr 1
  exact (decsN_mod 9 _).symm
end Go.Proofs.YtkceldnljppflaaDoor.Dig
