/- Plain facts on decimal digits. No Go in sight. -/
import Derived.Test.YtakfabaocgbbmaaDig
namespace Go.Proofs.Ytakfabaocgbbmaa.Dig

/-- the decimal digits of a number behind its leading noughts: none of 0 -/
def decsF : Nat → Nat → List UInt8
  | 0, _ => []
  | f + 1, n => if n = 0 then [] else decsF f (n / 10) ++ [UInt8.ofNat (48 + n % 10)]
def decs (n : Nat) : List UInt8 := decsF n n
theorem decsF_more : ∀ (f n : Nat), n ≤ f → decsF f n = decsF n n := by
  intro f
  induction f using Nat.strongRecOn with
  | _ f ih =>
    intro n h
    rcases Nat.eq_or_lt_of_le h with rfl | hlt
    · rfl
    · cases f with
      | zero => omega
      | succ f =>
        cases n with
        | zero => simp [decsF]
        | succ n =>
          simp only [decsF]
          rw [if_neg (by omega), if_neg (by omega)]
          have hle : (n + 1) / 10 ≤ n := by omega
          rw [ih f (by omega) _ (by omega)]
          congr 1
          by_cases hn : n < f + 1
          · exact (ih n (by omega) _ hle).symm
          · omega
theorem decs_zero : decs 0 = [] := rfl
theorem decs_pos {n : Nat} (h : n ≠ 0) : decs n = decs (n / 10) ++ [UInt8.ofNat (48 + n % 10)] := by
  unfold decs
  obtain ⟨m, rfl⟩ : ∃ m, n = m + 1 := ⟨n - 1, by omega⟩
  rw [decsF, if_neg h]
  congr 1
  exact decsF_more _ _ (by omega)
/-- the number of decimal digits -/
def undec (bs : List UInt8) : Nat := bs.foldl (fun n b => 10 * n + (b.toNat - 48)) 0
theorem undec_nil : undec [] = 0 := rfl
theorem undec_snoc (bs : List UInt8) (b : UInt8) : undec (bs ++ [b]) = 10 * undec bs + (b.toNat - 48) := by simp [undec]
/-- is each of them a decimal digit -/
def allDec (bs : List UInt8) : Bool := bs.all fun b => decide (48 ≤ b.toNat ∧ b.toNat ≤ 57)
theorem allDec_snoc (bs : List UInt8) (b : UInt8) : allDec (bs ++ [b]) = (allDec bs && decide (48 ≤ b.toNat ∧ b.toNat ≤ 57)) := by simp [allDec]
/-- a number in decimal digits -/
def text (n : Nat) : List UInt8 := if n = 0 then [48] else decs n
theorem decs_len (n k : Nat) (h : n < 10 ^ k) : (decs n).length ≤ k := by
  induction k generalizing n with
  | zero =>
    have : n = 0 := by simpa using h
    subst this; simp [decs_zero]
  | succ k ih =>
    by_cases h0 : n = 0
    · subst h0; simp [decs_zero]
    · rw [decs_pos h0]
      have := ih (n / 10) (by rw [Nat.div_lt_iff_lt_mul (by omega)]; rw [Nat.pow_succ] at h; exact h)
      simp; omega
theorem decs_num_len {xs : List Nat} (h : IsDig xs) : (decs (num xs)).length ≤ 10 * xs.length := by
  apply decs_len
  refine Nat.lt_of_lt_of_le (num_lt h) ?_
  rw [Nat.pow_mul]
  exact Nat.pow_le_pow_left (by decide) _
theorem decs_part {t M : List UInt8} {n : Nat} (hn : n ≠ 0) (h : decs n ++ t = M) : decs (n / 10) ++ (UInt8.ofNat (48 + n % 10) :: t) = M ∧ t.length + 1 ≤ M.length := by
  rw [decs_pos hn] at h
  refine ⟨by rw [← h]; simp, ?_⟩
  rw [← h]; simp only [List.length_append, List.length_cons, List.length_nil]; omega
theorem bytes_cons (c : UInt8) (t : List UInt8) : (⟨#[c]⟩ : ByteArray) ++ ⟨t.toArray⟩ = ⟨(c :: t).toArray⟩ := by
  apply ByteArray.ext
  rw [ByteArray.data_append]
  simp
end Go.Proofs.Ytakfabaocgbbmaa.Dig
