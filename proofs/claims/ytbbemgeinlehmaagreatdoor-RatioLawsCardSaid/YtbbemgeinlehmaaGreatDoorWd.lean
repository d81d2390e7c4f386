/- Plain facts on digits to the base 2^32: the number of a list of digits, the digits of a number. No Go in sight. What the document says of Uint, Cmp, Add, Sub, Mul, DivMod, as plain functions on lists of digits. No Go in sight. Plain facts on decimal digits. No Go in sight. Decimal digits and numbers, back and forth. No Go in sight. A slice of 32-bit digits that reads as a list of numbers; what was there before a call is there behind it. New and given slices of 32-bit digits as rows. A result of two cells, a truth value and a slice of digits, that a call lays ahead of its work: it is still there behind the calls in between. Layer 3's words: numbers of a sign and digits, what the document says of them, and results of two cells that a call lays. No code is spoken of. How many digits what the document says of layer 3 has. No code is spoken of. Text, as a plain function. -/
import Derived.WalkKit
import Derived.Test.YtbbemgeinlehmaaGreatDoorRows
import Derived.ProofKit
import Derived.OpenShut
import Derived.Lib.Hide
import Derived.WalkSmall
import Derived.Deep.QuietTactic
import Derived.BigQuiet
import Derived.Laws.Rows
import Derived.Deep.RegionHeld3
namespace Go.Proofs.YtbbemgeinlehmaaGreatDoor.Dig

def num : List Nat → Nat
  | [] => 0
  | d :: r => d + 4294967296 * num r

def IsDig (ds : List Nat) : Prop := ∀ d ∈ ds, d < 4294967296

/-- the digits of a number, by the number of digits that there may be at most -/
def digsF : Nat → Nat → List Nat
  | 0, _ => []
  | f + 1, n => if n = 0 then [] else n % 4294967296 :: digsF f (n / 4294967296)
def digs (n : Nat) : List Nat := digsF n n

theorem digsF_more : ∀ (f n : Nat), n ≤ f → digsF f n = digsF n n := by
  intro f
  induction f using Nat.strongRecOn with
  | _ f ih =>
    intro n h
    rcases Nat.eq_or_lt_of_le h with rfl | hlt
    · rfl
    · cases f with
      | zero => omega
      | succ f =>
        cases n with
        | zero => simp [digsF]
        | succ n =>
          simp only [digsF]
          rw [if_neg (by omega), if_neg (by omega)]
          have hle : (n + 1) / 4294967296 ≤ n := by omega
          rw [ih f (by omega) _ (by omega)]
          congr 1
          by_cases hn : n < f + 1
          · exact (ih n (by omega) _ hle).symm
          · omega
theorem digs_zero : digs 0 = [] := rfl
theorem digs_pos {n : Nat} (h : n ≠ 0) : digs n = n % 4294967296 :: digs (n / 4294967296) := by
  unfold digs
  obtain ⟨m, rfl⟩ : ∃ m, n = m + 1 := ⟨n - 1, by omega⟩
  rw [digsF, if_neg h]
  congr 1
  exact digsF_more _ _ (by omega)

theorem num_digs (n : Nat) : num (digs n) = n := by
  induction n using Nat.strongRecOn with
  | _ n ih =>
    by_cases h : n = 0
    · subst h; rfl
    · rw [digs_pos h, num, ih _ (by omega)]
      omega
theorem isDig_digs (n : Nat) : IsDig (digs n) := by
  induction n using Nat.strongRecOn with
  | _ n ih =>
    by_cases h : n = 0
    · subst h; intro d hd; simp [digs_zero] at hd
    · rw [digs_pos h]
      intro d hd
      rcases List.mem_cons.mp hd with rfl | hd
      · omega
      · exact ih _ (by omega) d hd

theorem isDig_tail {d : Nat} {r : List Nat} (h : IsDig (d :: r)) : d < 4294967296 ∧ IsDig r := ⟨h d (by simp), fun x hx => h x (by simp [hx])⟩
theorem isDig_nil : IsDig [] := by intro d hd; simp at hd
theorem isDig_take {ds : List Nat} (h : IsDig ds) (k : Nat) : IsDig (ds.take k) := fun d hd => h d (List.mem_of_mem_take hd)
theorem isDig_append {xs ys : List Nat} (h : IsDig xs) (k : IsDig ys) : IsDig (xs ++ ys) := fun d hd => by
  rcases List.mem_append.mp hd with hd | hd
  · exact h d hd
  · exact k d hd
theorem isDig_one {d : Nat} (h : d < 4294967296) : IsDig [d] := fun x hx => by simp at hx; omega
theorem getD_lt {ds : List Nat} (h : IsDig ds) (k : Nat) : ds.getD k 0 < 4294967296 := by
  by_cases hk : k < ds.length
  · have e : ds.getD k 0 = ds[k] := by simp [List.getD, hk]
    rw [e]; exact h _ (List.getElem_mem hk)
  · have e : ds.getD k 0 = 0 := by simp [List.getD, Nat.le_of_not_lt hk]
    omega

theorem num_append (xs ys : List Nat) : num (xs ++ ys) = num xs + 4294967296 ^ xs.length * num ys := by
  induction xs with
  | nil => simp [num]
  | cons d r ih =>
    simp only [List.cons_append, num, ih, List.length_cons, Nat.pow_succ]
    rw [Nat.mul_add, Nat.add_assoc, ← Nat.mul_assoc, Nat.mul_comm 4294967296 (4294967296 ^ r.length)]
theorem num_lt {xs : List Nat} (h : IsDig xs) : num xs < 4294967296 ^ xs.length := by
  induction xs with
  | nil => simp [num]
  | cons d r ih =>
    obtain ⟨h1, h2⟩ := isDig_tail h
    have := ih h2
    simp only [num, List.length_cons, Nat.pow_succ]
    omega
theorem num_one (d : Nat) : num [d] = d := by simp [num]

/-- the last digit, if there is one, is not 0 -/
def Norm (ds : List Nat) : Prop := ds.length = 0 ∨ ds.getD (ds.length - 1) 0 ≠ 0

theorem norm_digs (n : Nat) : Norm (digs n) := by
  induction n using Nat.strongRecOn with
  | _ n ih =>
    by_cases h : n = 0
    · subst h; left; rfl
    · right
      rw [digs_pos h]
      by_cases h2 : n / 4294967296 = 0
      · rw [h2, digs_zero]; simp; omega
      · rcases ih (n / 4294967296) (by omega) with h3 | h3
        · rw [digs_pos h2] at h3; simp at h3
        · have hl : (digs (n / 4294967296)).length ≠ 0 := by rw [digs_pos h2]; simp
          obtain ⟨k, hk⟩ : ∃ k, (digs (n / 4294967296)).length = k + 1 := ⟨(digs (n / 4294967296)).length - 1, by omega⟩
          rw [hk] at h3
          simp only [List.length_cons, hk, Nat.add_sub_cancel] at h3 ⊢
          simpa [List.getD] using h3
theorem norm_tail {d : Nat} {r : List Nat} (h : Norm (d :: r)) : Norm r := by
  rcases h with h | h
  · simp at h
  · cases r with
    | nil => left; rfl
    | cons e r => right; simpa [List.getD] using h

/-- digits that are right are those of their number -/
theorem digs_num {ds : List Nat} (h : IsDig ds) (hn : Norm ds) : digs (num ds) = ds := by
  induction ds with
  | nil => rfl
  | cons d r ih =>
    obtain ⟨h1, h2⟩ := isDig_tail h
    have ih' := ih h2 (norm_tail hn)
    have hne : num (d :: r) ≠ 0 := by
      intro h0
      simp only [num] at h0
      have hr : num r = 0 := by omega
      rw [hr, digs_zero] at ih'
      subst ih'
      rcases hn with hn | hn
      · simp at hn
      · simp at hn; omega
    rw [digs_pos hne]
    have e1 : num (d :: r) % 4294967296 = d := by simp only [num]; omega
    have e2 : num (d :: r) / 4294967296 = num r := by simp only [num]; omega
    rw [e1, e2, ih']
theorem num_inj {xs ys : List Nat} (h1 : IsDig xs) (h2 : Norm xs) (h3 : IsDig ys) (h4 : Norm ys) (h : num xs = num ys) : xs = ys := by
  rw [← digs_num h1 h2, ← digs_num h3 h4, h]

/-- noughts at the end change nothing -/
theorem num_take_zero {ds : List Nat} {k : Nat} (hk : k ≤ ds.length) (h : ∀ i, k ≤ i → i < ds.length → ds.getD i 0 = 0) : num (ds.take k) = num ds := by
  induction ds generalizing k with
  | nil => simp
  | cons d r ih =>
    cases k with
    | zero =>
      have h0 : d = 0 := by simpa using h 0 (by omega) (by simp)
      have h1 : num (r.take 0) = num r := ih (k := 0) (by omega) (fun i _ hi => by simpa [List.getD] using h (i + 1) (by omega) (by simpa using hi))
      simp only [List.take_zero, num] at h1 ⊢
      omega
    | succ k =>
      simp only [List.take_succ_cons, num]
      rw [ih (k := k) (by simpa using hk) (fun i hi1 hi2 => by simpa [List.getD] using h (i + 1) (by omega) (by simpa using hi2))]

theorem digs_len_le {n k : Nat} (h : n < 4294967296 ^ k) : (digs n).length ≤ k := by
  induction k generalizing n with
  | zero =>
    have : n = 0 := by simpa using h
    subst this; simp [digs_zero]
  | succ k ih =>
    by_cases h0 : n = 0
    · subst h0; simp [digs_zero]
    · rw [digs_pos h0]
      have : n / 4294967296 < 4294967296 ^ k := by
        rw [Nat.div_lt_iff_lt_mul (by omega)]; rw [Nat.pow_succ] at h; exact h
      have := ih this
      simp; omega
theorem digs_len_gt {n k : Nat} (h : 4294967296 ^ k ≤ n) : k < (digs n).length := by
  have h1 := num_lt (isDig_digs n)
  rw [num_digs] at h1
  rcases Nat.lt_or_ge k (digs n).length with h2 | h2
  · exact h2
  · have := Nat.pow_le_pow_right (n := 4294967296) (by omega) h2
    omega

/-- to take one digit more -/
theorem take_more {ds : List Nat} {k : Nat} (h : k < ds.length) : ds.take (k + 1) = ds.take k ++ [ds.getD k 0] := by
  rw [List.take_succ_eq_append_getElem h]
  simp [List.getD, h]
theorem num_take_more {ds : List Nat} {k : Nat} (h : k < ds.length) : num (ds.take (k + 1)) = num (ds.take k) + 4294967296 ^ k * ds.getD k 0 := by
  rw [take_more h, num_append, num_one, List.length_take, Nat.min_eq_left (by omega)]
/-- from place k on -/
theorem drop_one {ds : List Nat} {k : Nat} (h : k < ds.length) : ds.drop k = ds.getD k 0 :: ds.drop (k + 1) := by
  rw [List.drop_eq_getElem_cons h]
  simp [List.getD, h]

/-- the number, parted at a place -/
theorem num_at {ds : List Nat} {j : Nat} (h : j < ds.length) : num ds = num (ds.take j) + 4294967296 ^ j * (ds.getD j 0 + 4294967296 * num (ds.drop (j + 1))) := by
  have e : ds = ds.take j ++ (ds.getD j 0 :: ds.drop (j + 1)) := by rw [← drop_one h, List.take_append_drop]
  have := num_append (ds.take j) (ds.getD j 0 :: ds.drop (j + 1))
  rw [← e, List.length_take, Nat.min_eq_left (by omega)] at this
  exact this
theorem num_take_lt {ds : List Nat} (hd : IsDig ds) {j : Nat} (h : j ≤ ds.length) : num (ds.take j) < 4294967296 ^ j := by
  have := num_lt (isDig_take hd j)
  rwa [List.length_take, Nat.min_eq_left h] at this
/-- of two lists that are one from some place on, the digit before it tells which is less -/
theorem less_at {xs ys : List Nat} (hx : IsDig xs) (hl : xs.length = ys.length) {j : Nat} (h : j < xs.length) (he : xs.drop (j + 1) = ys.drop (j + 1)) (hlt : xs.getD j 0 < ys.getD j 0) : num xs < num ys := by
  rw [num_at h, num_at (ds := ys) (j := j) (by omega), he]
  have h1 := num_take_lt hx (j := j) (by omega)
  have h2 : 4294967296 ^ j * (xs.getD j 0 + 4294967296 * num (ys.drop (j + 1)) + 1) ≤ 4294967296 ^ j * (ys.getD j 0 + 4294967296 * num (ys.drop (j + 1))) := Nat.mul_le_mul_left _ (by omega)
  rw [Nat.mul_add (4294967296 ^ j) _ 1] at h2
  omega
/-- of right digits the longer ones are the greater number -/
theorem len_less {xs ys : List Nat} (hx : IsDig xs) (hy : Norm ys) (hl : xs.length < ys.length) : num xs < num ys := by
  have h1 := num_lt hx
  have h2 : 4294967296 ^ (ys.length - 1) ≤ num ys := by
    rcases hy with hy | hy
    · omega
    · rw [num_at (j := ys.length - 1) (by omega)]
      have : 4294967296 ^ (ys.length - 1) * 1 ≤ 4294967296 ^ (ys.length - 1) * (ys.getD (ys.length - 1) 0 + 4294967296 * num (ys.drop (ys.length - 1 + 1))) := Nat.mul_le_mul_left _ (by omega)
      omega
  have h3 := Nat.pow_le_pow_right (n := 4294967296) (by omega) (show xs.length ≤ ys.length - 1 by omega)
  omega
/-- is it less, as the digits tell -/
def lessB (xs ys : List Nat) : Bool := if xs.length = ys.length then decide (num xs < num ys) else decide (xs.length < ys.length)
theorem lessB_norm {xs ys : List Nat} (hx : IsDig xs) (hy : IsDig ys) (nx : Norm xs) (ny : Norm ys) : lessB xs ys = decide (num xs < num ys) := by
  unfold lessB
  split
  · rfl
  · rename_i hne
    rcases Nat.lt_or_gt_of_ne hne with h | h
    · rw [decide_eq_true h, decide_eq_true (len_less hx ny h)]
    · rw [decide_eq_false (by omega), decide_eq_false (by have := len_less hy nx h; omega)]
/-- are they the very same -/
def sameB (xs ys : List Nat) : Bool := decide (xs = ys)
theorem take_all_eq {xs ys : List Nat} (hl : xs.length = ys.length) (h : xs.take xs.length = ys.take xs.length) : xs = ys := by
  rw [List.take_length, hl, List.take_length] at h; exact h
theorem take_more_eq {xs ys : List Nat} (hl : xs.length = ys.length) {k : Nat} (hk : k < xs.length) (h : xs.take k = ys.take k) (hd : xs.getD k 0 = ys.getD k 0) : xs.take (k + 1) = ys.take (k + 1) := by
  rw [take_more hk, take_more (ds := ys) (k := k) (by omega), h, hd]
theorem drop_more_eq {xs ys : List Nat} (hl : xs.length = ys.length) {k : Nat} (hk : k < xs.length) (h : xs.drop (k + 1) = ys.drop (k + 1)) (hd : xs.getD k 0 = ys.getD k 0) : xs.drop k = ys.drop k := by
  rw [drop_one hk, drop_one (ds := ys) (k := k) (by omega), h, hd]
/-- digits with noughts at the end left out -/
theorem digs_trim {ds : List Nat} (hd : IsDig ds) {k : Nat} (hk : k ≤ ds.length) (h : ∀ i, k ≤ i → i < ds.length → ds.getD i 0 = 0) (hn : k = 0 ∨ ds.getD (k - 1) 0 ≠ 0) : digs (num ds) = ds.take k := by
  rw [← num_take_zero hk h]
  refine digs_num (isDig_take hd k) ?_
  rcases hn with rfl | hn
  · left; simp
  · by_cases h0 : k = 0
    · subst h0; left; simp
    · right
      rw [List.length_take, Nat.min_eq_left hk]
      have : (ds.take k).getD (k - 1) 0 = ds.getD (k - 1) 0 := by
        simp only [List.getD, List.getElem?_take]
        rw [if_pos (by omega)]
      rw [this]; exact hn

theorem num_take_succ (ds : List Nat) (k : Nat) : num (ds.take (k + 1)) = num (ds.take k) + 4294967296 ^ k * ds.getD k 0 := by
  by_cases h : k < ds.length
  · exact num_take_more h
  · have e : ds.getD k 0 = 0 := by simp [List.getD, Nat.le_of_not_lt h]
    rw [e, List.take_of_length_le (by omega), List.take_of_length_le (by omega)]; simp
theorem num_snoc (acc : List Nat) (d : Nat) : num (acc ++ [d]) = num acc + 4294967296 ^ acc.length * d := by rw [num_append, num_one]
theorem isDig_snoc {acc : List Nat} (h : IsDig acc) {d : Nat} (hd : d < 4294967296) : IsDig (acc ++ [d]) := isDig_append h (isDig_one hd)

/-- a step of the sum -/
theorem plus_step {xs ys acc : List Nat} {k c : Nat} (hl : acc.length = k) (h : num acc + 4294967296 ^ k * c = num (xs.take k) + num (ys.take k)) :
    num (acc ++ [(xs.getD k 0 + ys.getD k 0 + c) % 4294967296]) + 4294967296 ^ (k + 1) * ((xs.getD k 0 + ys.getD k 0 + c) / 4294967296) = num (xs.take (k + 1)) + num (ys.take (k + 1)) := by
  rw [num_snoc, hl, num_take_succ, num_take_succ]
  generalize hn : xs.getD k 0 + ys.getD k 0 + c = n
  have e : 4294967296 ^ k * (n % 4294967296) + 4294967296 ^ (k + 1) * (n / 4294967296) = 4294967296 ^ k * n := by
    rw [Nat.pow_succ, Nat.mul_assoc, ← Nat.mul_add, Nat.mod_add_div]
  have e2 : 4294967296 ^ k * n = 4294967296 ^ k * xs.getD k 0 + 4294967296 ^ k * ys.getD k 0 + 4294967296 ^ k * c := by
    rw [← hn, Nat.mul_add, Nat.mul_add]
  omega
theorem plus_end {xs ys acc : List Nat} {m c : Nat} (hx : IsDig xs) (hy : IsDig ys) (lx : xs.length ≤ m) (ly : ys.length ≤ m)
    (h : num acc + 4294967296 ^ (m + 1) * c = num (xs.take (m + 1)) + num (ys.take (m + 1))) : num acc = num xs + num ys := by
  rw [List.take_of_length_le (by omega), List.take_of_length_le (by omega)] at h
  have h1 := num_lt hx
  have h2 := num_lt hy
  have h3 := Nat.pow_le_pow_right (n := 4294967296) (by omega) lx
  have h4 := Nat.pow_le_pow_right (n := 4294967296) (by omega) ly
  rcases Nat.eq_zero_or_pos c with rfl | hc
  · rw [Nat.mul_zero] at h; omega
  · exfalso
    have h5 : 4294967296 ^ (m + 1) ≤ 4294967296 ^ (m + 1) * c := Nat.le_mul_of_pos_right _ hc
    have h6 : 4294967296 ^ (m + 1) = 4294967296 ^ m * 4294967296 := Nat.pow_succ ..
    generalize 4294967296 ^ (m + 1) * c = X at *
    generalize 4294967296 ^ (m + 1) = Y at *
    generalize 4294967296 ^ m = Z at *
    generalize 4294967296 ^ xs.length = Z1 at *
    generalize 4294967296 ^ ys.length = Z2 at *
    omega
/-- a step of the difference: the borrow is 0 or 1 -/
theorem minus_step {xs ys acc : List Nat} {k b : Nat} (hl : acc.length = k) (hxd : xs.getD k 0 < 4294967296) (hyd : ys.getD k 0 < 4294967296) (hb : b ≤ 1) (h : num acc + num (ys.take k) = num (xs.take k) + 4294967296 ^ k * b) :
    num (acc ++ [(4294967296 + xs.getD k 0 - ys.getD k 0 - b) % 4294967296]) + num (ys.take (k + 1)) = num (xs.take (k + 1)) + 4294967296 ^ (k + 1) * (1 - (4294967296 + xs.getD k 0 - ys.getD k 0 - b) / 4294967296) := by
  rw [num_snoc, hl, num_take_succ, num_take_succ]
  generalize xs.getD k 0 = x at *
  generalize ys.getD k 0 = y at *
  generalize hn : 4294967296 + x - y - b = n
  have hq : n / 4294967296 ≤ 1 := by omega
  have e : 4294967296 ^ k * (n % 4294967296) + 4294967296 ^ k * y + 4294967296 ^ k * b = 4294967296 ^ k * x + 4294967296 ^ (k + 1) * (1 - n / 4294967296) := by
    rw [Nat.pow_succ, Nat.mul_assoc, ← Nat.mul_add, ← Nat.mul_add, ← Nat.mul_add]
    congr 1
    omega
  omega
theorem minus_end {xs ys acc : List Nat} {b : Nat} (hx : IsDig xs) (hd : IsDig acc) (hl : acc.length = xs.length) (ly : ys.length ≤ xs.length) (hle : num ys ≤ num xs)
    (h : num acc + num (ys.take xs.length) = num (xs.take xs.length) + 4294967296 ^ xs.length * b) : num acc = num xs - num ys := by
  rw [List.take_of_length_le ly, List.take_length] at h
  have h1 := num_lt hx
  have h2 := num_lt hd
  rw [hl] at h2
  rcases Nat.eq_zero_or_pos b with rfl | hc
  · omega
  · exfalso
    have h5 : 4294967296 ^ xs.length * 1 ≤ 4294967296 ^ xs.length * b := Nat.mul_le_mul_left _ hc
    omega
/-- noughts -/
theorem num_noughts (k : Nat) : num (List.replicate k 0) = 0 := by
  induction k with
  | zero => rfl
  | succ k ih => rw [List.replicate_succ, num, ih]
theorem isDig_noughts (k : Nat) : IsDig (List.replicate k 0) := fun d hd => by
  have := List.eq_of_mem_replicate hd; omega
/-- a step of the product with a digit -/
theorem scaled_step {xs acc : List Nat} {by_ k c d : Nat} (hl : acc.length = by_ + k) (h : num acc + 4294967296 ^ (by_ + k) * c = 4294967296 ^ by_ * (num (xs.take k) * d)) :
    num (acc ++ [(xs.getD k 0 * d + c) % 4294967296]) + 4294967296 ^ (by_ + (k + 1)) * ((xs.getD k 0 * d + c) / 4294967296) = 4294967296 ^ by_ * (num (xs.take (k + 1)) * d) := by
  rw [num_snoc, hl, num_take_succ]
  generalize hn : xs.getD k 0 * d + c = n
  have e : 4294967296 ^ (by_ + k) * (n % 4294967296) + 4294967296 ^ (by_ + (k + 1)) * (n / 4294967296) = 4294967296 ^ (by_ + k) * n := by
    rw [← Nat.add_assoc, Nat.pow_succ, Nat.mul_assoc, ← Nat.mul_add, Nat.mod_add_div]
  have e2 : 4294967296 ^ (by_ + k) * n = 4294967296 ^ by_ * (4294967296 ^ k * xs.getD k 0 * d) + 4294967296 ^ (by_ + k) * c := by
    rw [← hn, Nat.mul_add, Nat.pow_add, Nat.mul_assoc, Nat.mul_assoc, Nat.mul_assoc]
  rw [Nat.add_mul, Nat.mul_add]
  omega
theorem scaled_end {xs acc : List Nat} {by_ c d : Nat} (hx : IsDig xs) (hd : d < 4294967296) (h : num acc + 4294967296 ^ (by_ + (xs.length + 1)) * c = 4294967296 ^ by_ * (num (xs.take (xs.length + 1)) * d)) :
    num acc = 4294967296 ^ by_ * (num xs * d) := by
  rw [List.take_of_length_le (by omega)] at h
  have h1 := num_lt hx
  rcases Nat.eq_zero_or_pos c with rfl | hc
  · rw [Nat.mul_zero] at h; omega
  · exfalso
    have h5 : 4294967296 ^ (by_ + (xs.length + 1)) ≤ 4294967296 ^ (by_ + (xs.length + 1)) * c := Nat.le_mul_of_pos_right _ hc
    have h6 : num xs * d < 4294967296 ^ xs.length * 4294967296 := by
      rcases Nat.eq_zero_or_pos d with rfl | hd0
      · have := Nat.pow_pos (n := xs.length) (show 0 < 4294967296 by omega); omega
      · calc num xs * d < 4294967296 ^ xs.length * d := Nat.mul_lt_mul_of_pos_right h1 hd0
          _ ≤ 4294967296 ^ xs.length * 4294967296 := Nat.mul_le_mul_left _ (by omega)
    have h7 : 4294967296 ^ by_ * (num xs * d) < 4294967296 ^ by_ * (4294967296 ^ xs.length * 4294967296) := Nat.mul_lt_mul_of_pos_left h6 (Nat.pow_pos (by omega))
    have h8 : 4294967296 ^ (by_ + (xs.length + 1)) = 4294967296 ^ by_ * (4294967296 ^ xs.length * 4294967296) := by rw [Nat.pow_add, Nat.pow_succ]
    generalize 4294967296 ^ (by_ + (xs.length + 1)) * c = X at *
    generalize 4294967296 ^ (by_ + (xs.length + 1)) = Y at *
    generalize 4294967296 ^ by_ * (num xs * d) = Z at *
    generalize 4294967296 ^ by_ * (4294967296 ^ xs.length * 4294967296) = W at *
    omega
/-- the digits to be handled are few: the number fits -/
theorem scaled_fits {x d c : Nat} (hx : x < 4294967296) (hd : d < 4294967296) (hc : c < 4294967296) : x * d + c < 18446744073709551616 ∧ (x * d + c) / 4294967296 < 4294967296 := by
  have h1 : x * d ≤ 4294967295 * 4294967295 := Nat.mul_le_mul (by omega) (by omega)
  omega
end Go.Proofs.YtbbemgeinlehmaaGreatDoor.Dig

namespace Go.Proofs.YtbbemgeinlehmaaGreatDoor.Dig

/-- the digits are right: as a Bool -/
def rightB (ds : List Nat) : Bool := decide (ds.length ≤ 256) && (decide (ds.length = 0) || decide (ds.getD (ds.length - 1) 0 ≠ 0))
theorem right_norm {ds : List Nat} (h : rightB ds = true) : ds.length ≤ 256 ∧ Norm ds := by
  simpa [rightB, Norm] using h
theorem right_of {ds : List Nat} (h : ds.length ≤ 256) (n : Norm ds) : rightB ds = true := by
  simpa [rightB, Norm] using And.intro h n

/-- digits, if they are not too many -/
def fitD (n : Nat) : List Nat × Int := if (digs n).length ≤ 256 then (digs n, 0) else ([], 3)
def addD (xs ys : List Nat) : List Nat × Int := if rightB xs = true ∧ rightB ys = true then fitD (num xs + num ys) else ([], 2)
def mulD (xs ys : List Nat) : List Nat × Int := if rightB xs = true ∧ rightB ys = true then fitD (num xs * num ys) else ([], 2)
def subD (xs ys : List Nat) : List Nat × Int := if (rightB xs = true ∧ rightB ys = true) ∧ num ys ≤ num xs then (digs (num xs - num ys), 0) else ([], 2)
def cmpD (xs ys : List Nat) : Int × Int := if rightB xs = true ∧ rightB ys = true then (if num xs < num ys then (-1, 0) else if num ys < num xs then (1, 0) else (0, 0)) else (0, 2)
def uintD (xs : List Nat) : Nat × Int := if rightB xs = true then (if 2 < xs.length then (0, 4) else (num xs, 0)) else (0, 2)
def divQ (xs ys : List Nat) : List Nat := if (rightB xs = true ∧ rightB ys = true) ∧ ys.length ≠ 0 then digs (num xs / num ys) else []
def divR (xs ys : List Nat) : List Nat := if (rightB xs = true ∧ rightB ys = true) ∧ ys.length ≠ 0 then digs (num xs % num ys) else []
def divE (xs ys : List Nat) : Int := if (rightB xs = true ∧ rightB ys = true) ∧ ys.length ≠ 0 then 0 else 2

theorem fitD_dig (n : Nat) : IsDig (fitD n).1 := by
  unfold fitD; split
  · exact isDig_digs n
  · exact isDig_nil
theorem fitD_len (n : Nat) : (fitD n).1.length ≤ 256 := by
  unfold fitD; split
  · assumption
  · simp
theorem addD_len (xs ys : List Nat) : (addD xs ys).1.length ≤ 256 := by
  unfold addD; split
  · exact fitD_len _
  · simp
theorem mulD_len (xs ys : List Nat) : (mulD xs ys).1.length ≤ 256 := by
  unfold mulD; split
  · exact fitD_len _
  · simp
theorem digs_len_mono {a b : Nat} (h : a ≤ b) : (digs a).length ≤ (digs b).length := by
  apply digs_len_le
  have := num_lt (isDig_digs b)
  rw [num_digs] at this
  omega
theorem digs_len_num {xs : List Nat} (h : IsDig xs) : (digs (num xs)).length ≤ xs.length := digs_len_le (num_lt h)
theorem subD_len {xs ys : List Nat} (h : IsDig xs) : (subD xs ys).1.length ≤ xs.length := by
  unfold subD; split
  · exact Nat.le_trans (digs_len_mono (Nat.sub_le _ _)) (digs_len_num h)
  · simp
theorem num_pos {ys : List Nat} (h : Norm ys) (hl : ys.length ≠ 0) : 0 < num ys := by
  rcases h with h | h
  · exact absurd h hl
  · rw [num_at (j := ys.length - 1) (by omega)]
    have : 4294967296 ^ (ys.length - 1) * 1 ≤ 4294967296 ^ (ys.length - 1) * (ys.getD (ys.length - 1) 0 + 4294967296 * num (ys.drop (ys.length - 1 + 1))) := Nat.mul_le_mul_left _ (by omega)
    have := Nat.pow_pos (n := ys.length - 1) (show 0 < 4294967296 by omega)
    omega
theorem norm_len_le {xs ys : List Nat} (hx : IsDig xs) (ny : Norm ys) (h : num ys ≤ num xs) : ys.length ≤ xs.length := by
  rcases Nat.lt_or_ge xs.length ys.length with hl | hl
  · have := len_less hx ny hl; omega
  · exact hl
theorem divQ_len {xs ys : List Nat} (h : IsDig xs) : (divQ xs ys).length ≤ xs.length := by
  unfold divQ; split
  · exact Nat.le_trans (digs_len_mono (Nat.div_le_self _ _)) (digs_len_num h)
  · simp
theorem divR_len {xs ys : List Nat} (h : IsDig xs) : (divR xs ys).length ≤ xs.length := by
  unfold divR; split
  · exact Nat.le_trans (digs_len_mono (Nat.mod_le _ _)) (digs_len_num h)
  · simp
end Go.Proofs.YtbbemgeinlehmaaGreatDoor.Dig
namespace Go.Proofs.YtbbemgeinlehmaaGreatDoor.Ref02
open Go.Proofs.YtbbemgeinlehmaaGreatDoor.Dig
/-- right digits' number has no more digits than they -/
theorem prod_len {xs ys : List Nat} (hx : IsDig xs) (hy : IsDig ys) : (digs (num xs * num ys)).length ≤ xs.length + ys.length := by
  apply digs_len_le
  rw [Nat.pow_add]
  have h1 := num_lt hx
  have h2 := num_lt hy
  rcases Nat.eq_zero_or_pos (num ys) with h | h
  · rw [h, Nat.mul_zero]; exact Nat.mul_pos (Nat.pow_pos (by omega)) (Nat.pow_pos (by omega))
  · exact Nat.lt_of_lt_of_le (Nat.mul_lt_mul_of_pos_right h1 h) (Nat.mul_le_mul_left _ (Nat.le_of_lt h2))
end Go.Proofs.YtbbemgeinlehmaaGreatDoor.Ref02
namespace Go.Proofs.YtbbemgeinlehmaaGreatDoor.Ref02
open Go.Proofs.YtbbemgeinlehmaaGreatDoor.Dig
/-- the number of the digits from place k on -/
theorem num_drop {ds : List Nat} {j : Nat} (h : j < ds.length) : num (ds.drop j) = ds.getD j 0 + 4294967296 * num (ds.drop (j + 1)) := by
  rw [drop_one h, num]
theorem num_short {ds : List Nat} (hd : IsDig ds) (h : ds.length ≤ 2) (j : Nat) : num (ds.drop j) < 18446744073709551616 ∧ (1 ≤ j → num (ds.drop j) < 4294967296) := by
  have h1 := num_lt (fun d hx => hd d (List.mem_of_mem_drop hx) : IsDig (ds.drop j))
  rw [List.length_drop] at h1
  refine ⟨Nat.lt_of_lt_of_le h1 (Nat.le_trans (Nat.pow_le_pow_right (j := 2) (by omega) (by omega)) (by decide)), fun hj => Nat.lt_of_lt_of_le h1 (Nat.le_trans (Nat.pow_le_pow_right (j := 1) (by omega) (by omega)) (by decide))⟩
end Go.Proofs.YtbbemgeinlehmaaGreatDoor.Ref02

namespace Go.Proofs.YtbbemgeinlehmaaGreatDoor.Dig

/-- the decimal digits of a number behind its leading noughts: none of 0 -/
def decsF : Nat → Nat → List UInt8
  | 0, _ => []
  | f + 1, n => if n = 0 then [] else decsF f (n / 10) ++ [UInt8.ofNat (48 + n % 10)]
def decs (n : Nat) : List UInt8 := decsF n n
theorem decsF_more : ∀ (f n : Nat), n ≤ f → decsF f n = decsF n n := by
  intro f
  induction f using Nat.strongRecOn with
  | _ f ih =>
    intro n h
    rcases Nat.eq_or_lt_of_le h with rfl | hlt
    · rfl
    · cases f with
      | zero => omega
      | succ f =>
        cases n with
        | zero => simp [decsF]
        | succ n =>
          simp only [decsF]
          rw [if_neg (by omega), if_neg (by omega)]
          have hle : (n + 1) / 10 ≤ n := by omega
          rw [ih f (by omega) _ (by omega)]
          congr 1
          by_cases hn : n < f + 1
          · exact (ih n (by omega) _ hle).symm
          · omega
theorem decs_zero : decs 0 = [] := rfl
theorem decs_pos {n : Nat} (h : n ≠ 0) : decs n = decs (n / 10) ++ [UInt8.ofNat (48 + n % 10)] := by
  unfold decs
  obtain ⟨m, rfl⟩ : ∃ m, n = m + 1 := ⟨n - 1, by omega⟩
  rw [decsF, if_neg h]
  congr 1
  exact decsF_more _ _ (by omega)
/-- the number of decimal digits -/
def undec (bs : List UInt8) : Nat := bs.foldl (fun n b => 10 * n + (b.toNat - 48)) 0
theorem undec_nil : undec [] = 0 := rfl
theorem undec_snoc (bs : List UInt8) (b : UInt8) : undec (bs ++ [b]) = 10 * undec bs + (b.toNat - 48) := by simp [undec]
/-- is each of them a decimal digit -/
def allDec (bs : List UInt8) : Bool := bs.all fun b => decide (48 ≤ b.toNat ∧ b.toNat ≤ 57)
theorem allDec_snoc (bs : List UInt8) (b : UInt8) : allDec (bs ++ [b]) = (allDec bs && decide (48 ≤ b.toNat ∧ b.toNat ≤ 57)) := by simp [allDec]
/-- a number in decimal digits -/
def text (n : Nat) : List UInt8 := if n = 0 then [48] else decs n
theorem decs_len (n k : Nat) (h : n < 10 ^ k) : (decs n).length ≤ k := by
  induction k generalizing n with
  | zero =>
    have : n = 0 := by simpa using h
    subst this; simp [decs_zero]
  | succ k ih =>
    by_cases h0 : n = 0
    · subst h0; simp [decs_zero]
    · rw [decs_pos h0]
      have := ih (n / 10) (by rw [Nat.div_lt_iff_lt_mul (by omega)]; rw [Nat.pow_succ] at h; exact h)
      simp; omega
theorem decs_num_len {xs : List Nat} (h : IsDig xs) : (decs (num xs)).length ≤ 10 * xs.length := by
  apply decs_len
  refine Nat.lt_of_lt_of_le (num_lt h) ?_
  rw [Nat.pow_mul]
  exact Nat.pow_le_pow_left (by decide) _
theorem decs_part {t M : List UInt8} {n : Nat} (hn : n ≠ 0) (h : decs n ++ t = M) : decs (n / 10) ++ (UInt8.ofNat (48 + n % 10) :: t) = M ∧ t.length + 1 ≤ M.length := by
  rw [decs_pos hn] at h
  refine ⟨by rw [← h]; simp, ?_⟩
  rw [← h]; simp only [List.length_append, List.length_cons, List.length_nil]; omega
theorem bytes_cons (c : UInt8) (t : List UInt8) : (⟨#[c]⟩ : ByteArray) ++ ⟨t.toArray⟩ = ⟨(c :: t).toArray⟩ := by
  apply ByteArray.ext
  rw [ByteArray.data_append]
  simp
end Go.Proofs.YtbbemgeinlehmaaGreatDoor.Dig

namespace Go.Proofs.YtbbemgeinlehmaaGreatDoor.Dig

theorem undec_decs (n : Nat) : undec (decs n) = n := by
  induction n using Nat.strongRecOn with
  | _ n ih =>
    by_cases h : n = 0
    · subst h; rfl
    · rw [decs_pos h, undec_snoc, ih (n / 10) (by omega)]
      have e : (UInt8.ofNat (48 + n % 10)).toNat = 48 + n % 10 := by
        rw [UInt8.toNat_ofNat']; omega
      rw [e]; omega
theorem allDec_decs (n : Nat) : allDec (decs n) = true := by
  induction n using Nat.strongRecOn with
  | _ n ih =>
    by_cases h : n = 0
    · subst h; rfl
    · rw [decs_pos h, allDec_snoc, ih (n / 10) (by omega)]
      have e : (UInt8.ofNat (48 + n % 10)).toNat = 48 + n % 10 := by
        rw [UInt8.toNat_ofNat']; omega
      rw [e]; simp; omega
theorem decs_ne {n : Nat} (h : n ≠ 0) : (decs n).length ≠ 0 := by
  rw [decs_pos h]; simp
theorem head_decs {n : Nat} (h : n ≠ 0) : ((decs n).getD 0 0).toNat ≠ 48 := by
  induction n using Nat.strongRecOn with
  | _ n ih =>
    by_cases h2 : n / 10 = 0
    · rw [decs_pos h, h2, decs_zero]
      have e : (UInt8.ofNat (48 + n % 10)).toNat = 48 + n % 10 := by
        rw [UInt8.toNat_ofNat']; omega
      simp only [List.nil_append, List.getD, List.getElem?_cons_zero, Option.getD_some]
      rw [e]; omega
    · rw [decs_pos h]
      have h3 := ih (n / 10) (by omega) h2
      have h4 := decs_ne h2
      have e : (decs (n / 10) ++ [UInt8.ofNat (48 + n % 10)]).getD 0 0 = (decs (n / 10)).getD 0 0 := by
        simp only [List.getD]
        rw [List.getElem?_append_left (by omega)]
      rw [e]; exact h3
theorem snoc_of {bs : List UInt8} (h : bs.length ≠ 0) : ∃ pre b, bs = pre ++ [b] := by
  obtain ⟨n, hn⟩ : ∃ n, bs.length = n + 1 := ⟨bs.length - 1, by omega⟩
  exact ⟨bs.take n, bs[n]'(by omega), by rw [← List.take_succ_eq_append_getElem (by omega), List.take_of_length_le (by omega)]⟩
theorem decs_undec {bs : List UInt8} (ha : allDec bs = true) (hh : bs.length = 0 ∨ (bs.getD 0 0).toNat ≠ 48) : decs (undec bs) = bs := by
  obtain ⟨n, hn⟩ : ∃ n, n = bs.length := ⟨_, rfl⟩
  induction n generalizing bs with
  | zero =>
    have : bs = [] := List.eq_nil_of_length_eq_zero hn.symm
    subst this; rfl
  | succ n ih =>
    obtain ⟨pre, b, rfl⟩ := snoc_of (by omega : bs.length ≠ 0)
    have hl : pre.length = n := by simp at hn; omega
    rw [allDec_snoc] at ha
    have hb : 48 ≤ b.toNat ∧ b.toNat ≤ 57 := by simp at ha; exact ha.2
    have hp : allDec pre = true := by simp at ha; exact ha.1
    have hh2 : pre.length = 0 ∨ (pre.getD 0 0).toNat ≠ 48 := by
      by_cases h0 : pre.length = 0
      · exact .inl h0
      · right
        rcases hh with hh | hh
        · simp at hh
        · simp only [List.getD] at hh ⊢
          rwa [List.getElem?_append_left (by omega)] at hh
    have h1 := ih hp hh2 hl.symm
    rw [undec_snoc]
    have hne : 10 * undec pre + (b.toNat - 48) ≠ 0 := by
      intro h0
      have hu : undec pre = 0 := by omega
      rw [hu, decs_zero] at h1
      subst h1
      rcases hh with hh | hh
      · simp at hh
      · simp at hh; omega
    rw [decs_pos hne, show (10 * undec pre + (b.toNat - 48)) / 10 = undec pre by omega, h1, show 48 + (10 * undec pre + (b.toNat - 48)) % 10 = b.toNat by omega]
    simp
end Go.Proofs.YtbbemgeinlehmaaGreatDoor.Dig

namespace Go.Proofs.YtbbemgeinlehmaaGreatDoor
open Go.RowKit
open Go.Proofs.YtbbemgeinlehmaaGreatDoor.Dig

/-- what was there before is as it was -/
def Since (w w' : World) : Prop := Below w.heap.size w w'
theorem Since.refl (w : World) : Since w w := Below.refl _ _
theorem Since.trans {a b c : World} (h : Since a b) (k : Since b c) : Since a c := Below.trans h (Below.mono k h.size)
theorem Since.alloc {a b : World} (h : Since a b) (o : Obj) : Since a (b.alloc o) := Below.alloc h h.size o
theorem Since.set {a b : World} (h : Since a b) {p : Addr} (hp : a.heap.size ≤ p.block) (u : Value) : Since a (b.setCell p u) := Below.setCell h hp u
theorem Since.drewN {a b : World} (h : Since a b) (n : Nat) : Since a (b.drewN n) := below_drewN h n
theorem Since.drew {a b : World} (h : Since a b) : Since a b.drew := Below.drew h

theorem ret_bool {a b : Bool} (h : a = b) : Ending.returned (.bool a) = .returned (.bool b) := by rw [h]
theorem ret_int {k : IntKind} {a b : Int} (h : a = b) : Ending.returned (.int k a) = .returned (.int k b) := by rw [h]

/-- digits as cells -/
def u32s (ds : List Nat) : List Value := ds.map fun (d : Nat) => Value.int .u32 (d : Int)
theorem u32s_append (xs ys : List Nat) : u32s (xs ++ ys) = u32s xs ++ u32s ys := by simp [u32s]
theorem u32s_one (d : Nat) : u32s [d] = [Value.int .u32 (d : Int)] := rfl
theorem u32s_len (xs : List Nat) : (u32s xs).length = xs.length := by simp [u32s]

/-- the slice v reads as the digits ds -/
def Row (w : World) (v : Value) (ds : List Nat) : Prop :=
  IsDig ds ∧ ∃ A c, v = .slice A ds.length c ∧ (0 < ds.length → ∃ b o, A = some ⟨b, o, none⟩ ∧ ∀ i, i < ds.length → w.cell? ⟨b, o + i, none⟩ = some (.int .u32 ((ds.getD i 0 : Nat) : Int))) ∧ ds.length ≤ c

theorem Row.dig {w : World} {v : Value} {ds : List Nat} (h : Row w v ds) : IsDig ds := h.1
theorem Row.since {w w' : World} {v : Value} {ds : List Nat} (h : Row w v ds) (k : Since w w') : Row w' v ds := by
  obtain ⟨h1, A, c, h2, h3, h6⟩ := h
  refine ⟨h1, A, c, h2, fun hl => ?_, h6⟩
  obtain ⟨b, o, h4, h5⟩ := h3 hl
  exact ⟨b, o, h4, fun i hi => (Below.cell k (World.block_lt_of_cell? _ _ (h5 i hi))).trans (h5 i hi)⟩
theorem Row.nil (w : World) : Row w (.slice none 0 0) [] := ⟨isDig_nil, none, 0, rfl, fun h => by simp at h, Nat.le_refl _⟩

theorem add_block (b o i : Nat) : (⟨b, o, none⟩ : Addr).add i = ⟨b, o + i, none⟩ := by
  unfold Addr.add; by_cases h : i = 0 <;> simp [h]

/-- a row that the call owns reads as its digits -/
theorem Row.own {w : World} {base : Nat} {e : TypeId} {v : Value} {n : Nat} {ds : List Nat} (hd : IsDig ds) (h : w.ownsRow base e 1 v n (u32s ds)) : Row w v ds := by
  have hl : ds.length = n := by have := h.1; simpa [u32s] using this
  subst hl
  refine ⟨hd, ?_⟩
  have hc := fun (g : Nat) => h.cells (g := g)
  rcases h.2 with ⟨h1, h2⟩ | ⟨g, cap, cur, h1, _, _, hcap, _⟩
  · exact ⟨none, 0, by rw [h1, h2], fun h => by omega, by omega⟩
  · refine ⟨some ⟨g, 0, none⟩, cap, h1, fun _ => ⟨g, 0, rfl, fun i hi => ?_⟩, hcap⟩
    have := hc g (by rw [h1]; rfl) i (.int .u32 ((ds.getD i 0 : Nat) : Int)) (by simp [u32s, hi, List.getD])
    rw [add_block] at this
    simpa using this

/-- ends with a slice that reads as the digits, and leaves what was there -/
def RetRow (ds : List Nat) (w : World) (e : Ending) (w' : World) : Prop := ∃ v, e = .returned v ∧ Row w' v ds ∧ Since w w'
/-- .. with a slice and a number -/
def RetRowErr (ds : List Nat) (x : Int) (w : World) (e : Ending) (w' : World) : Prop := ∃ v, e = .returned (.tuple #[v, .int .i64 x]) ∧ Row w' v ds ∧ Since w w'
end Go.Proofs.YtbbemgeinlehmaaGreatDoor

namespace Go.Proofs.YtbbemgeinlehmaaGreatDoor
open Go.RowKit
set_option linter.unusedVariables false
open Go.Proofs.YtbbemgeinlehmaaGreatDoor.Dig

/-- a slice of 32-bit numbers that came in reads as digits -/
theorem row_in {w : World} {a : Option Addr} {len cap : Nat} {zs : List Int}
    (h : (a = none ∧ len = 0 ∧ cap = 0 ∧ zs = []) ∨ ∃ x, a = some x ∧ len ≤ cap ∧ cap ≤ maxLen ∧ zs.length = cap ∧ (∀ i, i < zs.length → w.cell? (x.add i) = some (.int .u32 (zs.getD i 0))) ∧ ∀ n ∈ zs, (Lit.int .u32 n).wf = true) :
    ∃ ds : List Nat, ds.length = len ∧ Row w (.slice a len cap) ds := by
  rcases h with ⟨rfl, rfl, rfl, _⟩ | ⟨x, rfl, hl, _, hz, hc, hw⟩
  · exact ⟨[], rfl, Row.nil _⟩
  · refine ⟨(zs.take len).map Int.toNat, by simp; omega, ?_, ?_⟩
    · intro d hd
      obtain ⟨n, hn, rfl⟩ := List.mem_map.mp hd
      have := bounds_u32 (hw n (List.mem_of_mem_take hn))
      omega
    · have hlen : ((zs.take len).map Int.toNat).length = len := by simp; omega
      refine ⟨some x, cap, by rw [hlen], fun h0 => ?_, by rw [hlen]; exact hl⟩
      obtain ⟨b, o, rfl, hd⟩ := ints_at hc (by omega)
      refine ⟨b, o, rfl, fun i hi => ?_⟩
      rw [hlen] at hi
      have hi2 : i < zs.length := by omega
      rw [hd i hi2]
      have e1 : zs.getD i 0 = zs[i] := by simp [List.getD, hi2]
      have hb := bounds_u32 (hw zs[i] (List.getElem_mem hi2))
      have e2 : ((zs.take len).map Int.toNat).getD i 0 = zs[i].toNat := by
        simp [List.getD, hi, hi2]
      rw [e1, e2]
      congr 2
      omega

theorem row_new (W : World) (e : TypeId) (c : Array Value) (ds : List Nat) (hd : IsDig ds) (hl : c.size = ds.length) (hc : ∀ i, i < ds.length → c[i]? = some (.int .u32 ((ds.getD i 0 : Nat) : Int))) :
    Row (W.alloc (.cells c e)) (.slice (some ⟨W.heap.size, 0, none⟩) ds.length ds.length) ds := by
  refine ⟨hd, _, _, rfl, fun _ => ⟨W.heap.size, 0, rfl, fun i hi => ?_⟩, Nat.le_refl _⟩
  rw [Nat.zero_add, ← hc i hi]
  simp
theorem row_one (W : World) (e : TypeId) (d : Nat) (hd : d < 4294967296) : Row (W.alloc (.cells #[.int .u32 (d : Int)] e)) (.slice (some ⟨W.heap.size, 0, none⟩) 1 1) [d] :=
  row_new W e #[.int .u32 (d : Int)] [d] (isDig_one hd) rfl (fun i hi => by
    have : i = 0 := by simpa using hi
    subst this; rfl)
theorem row_two (W : World) (e : TypeId) (c d : Nat) (hc : c < 4294967296) (hd : d < 4294967296) : Row (W.alloc (.cells #[.int .u32 (c : Int), .int .u32 (d : Int)] e)) (.slice (some ⟨W.heap.size, 0, none⟩) 2 2) [c, d] :=
  row_new W e #[.int .u32 (c : Int), .int .u32 (d : Int)] [c, d] (fun x hx => by simp at hx; omega) rfl (fun i hi => by
    have : i < 2 := by simpa using hi
    rcases (show i = 0 ∨ i = 1 by omega) with rfl | rfl <;> rfl)
theorem since_alloc (W : World) (o : Obj) : Since W (W.alloc o) := (Since.refl W).alloc o

theorem pair_new (W : World) (e : TypeId) (c d : Nat) (hc : c < 4294967296) (hd : d < 4294967296) :
    Row ((W.alloc (.cells #[.int .u32 (c : Int)] e)).alloc (.cells #[.int .u32 (d : Int)] e)) (.slice (some ⟨W.heap.size, 0, none⟩) 1 1) [c] ∧
    Row ((W.alloc (.cells #[.int .u32 (c : Int)] e)).alloc (.cells #[.int .u32 (d : Int)] e)) (.slice (some ⟨W.heap.size + 1, 0, none⟩) 1 1) [d] := by
  refine ⟨(row_one W e c hc).since (since_alloc _ _), ?_⟩
  have h := row_one (W.alloc (.cells #[.int .u32 (c : Int)] e)) e d hd
  have e1 : (W.alloc (.cells #[.int .u32 (c : Int)] e)).heap.size = W.heap.size + 1 := by simp
  rw [e1] at h
  exact h

end Go.Proofs.YtbbemgeinlehmaaGreatDoor

namespace Go.Proofs.YtbbemgeinlehmaaGreatDoor
open Go.RowKit
set_option linter.unusedVariables false
open Go.Proofs.YtbbemgeinlehmaaGreatDoor.Dig

/-- ends with a slice that is seen as one -/
def RetSl (ds : List Nat) (w : World) (e : Ending) (w' : World) : Prop := ∃ A c, e = .returned (.slice A ds.length c) ∧ Row w' (.slice A ds.length c) ds ∧ Since w w'
theorem RetRow.sl {ds : List Nat} {w : World} {e : Ending} {w' : World} (h : RetRow ds w e w') : RetSl ds w e w' := by
  obtain ⟨v, rfl, hr, hs⟩ := h
  obtain ⟨h1, A, c, rfl, h3, h6⟩ := hr
  exact ⟨A, c, rfl, ⟨h1, A, c, rfl, h3, h6⟩, hs⟩
theorem Since.cell {a b : World} (h : Since a b) (p : Addr) (hp : p.block < a.heap.size) : b.cell? p = a.cell? p := Below.cell h hp
theorem block_new {w W : World} {o : Obj} (h : Since (w.alloc o) W) : W.heap[w.heap.size]? = some o := by
  rw [h.block w.heap.size (by simp), heap_alloc_new]
theorem keep2 {w W : World} {z0 z1 : Value} {t : TypeId} (h : Since (w.alloc (.cells #[z0, z1] t)) W) :
    W.cell? ⟨w.heap.size, 0, none⟩ = some z0 ∧ W.cell? ⟨w.heap.size, 1, none⟩ = some z1 ∧ W.frozen? ⟨w.heap.size, 0, none⟩ = false ∧ W.frozen? ⟨w.heap.size, 1, none⟩ = false := by
  refine ⟨?_, ?_, ?_, ?_⟩
  · rw [Below.cell h (by simp)]; simp
  · rw [Below.cell h (by simp)]; simp
  · rw [Below.frozen h (by simp)]; simp
  · rw [Below.frozen h (by simp)]; simp
/-- digits lie in no block of a truth value and a slice -/
theorem row_far {W W' : World} {b : Nat} {x : Bool} {A : Option Addr} {n c : Nat} {t : TypeId} {fz : Nat × Nat} {v : Value} {ds : List Nat} (h : Row W v ds)
    (hb : W.heap[b]? = some (.cells #[.bool x, .slice A n c] t fz)) (hk : ∀ k, k ≠ b → W'.heap[k]? = W.heap[k]?) : Row W' v ds := by
  obtain ⟨h1, A', c', h2, h3, h6⟩ := h
  refine ⟨h1, A', c', h2, fun hl => ?_, h6⟩
  obtain ⟨g, o, h4, h5⟩ := h3 hl
  refine ⟨g, o, h4, fun i hi => ?_⟩
  have hc := h5 i hi
  have hg : g ≠ b := by
    rintro rfl
    have e : W.cell? ⟨g, o + i, none⟩ = (#[Value.bool x, .slice A n c] : Array Value)[o + i]? := cell_of_row W g (o + i) _ t fz hb
    rw [e] at hc
    match o + i, hc with
    | 0, hc => simp at hc
    | 1, hc => simp at hc
    | k + 2, hc => simp at hc
  rw [World.cell?_of_block (w := W) (w' := W') (a := ⟨g, o + i, none⟩) (hk g hg)]
  exact hc
theorem row_set2 {w W : World} {x : Bool} {A : Option Addr} {n c : Nat} {t : TypeId} {v : Value} {ds : List Nat} (h : Row W v ds)
    (hb : Since (w.alloc (.cells #[.bool x, .slice A n c] t)) W) (u0 u1 : Value) : Row ((W.setCell ⟨w.heap.size, 0, none⟩ u0).setCell ⟨w.heap.size, 1, none⟩ u1) v ds :=
  row_far h (block_new hb) fun k hk => by
    rw [Below.heap_setCell _ _ _ _ (by simpa using hk), Below.heap_setCell _ _ _ _ (by simpa using hk)]
theorem since_set2 {w W : World} {o : Obj} (hb : Since (w.alloc o) W) (u0 u1 : Value) : Since w ((W.setCell ⟨w.heap.size, 0, none⟩ u0).setCell ⟨w.heap.size, 1, none⟩ u1) :=
  (((since_alloc w o).trans hb).set (Nat.le_refl _) _).set (Nat.le_refl _) _
end Go.Proofs.YtbbemgeinlehmaaGreatDoor

namespace Go.Proofs.YtbbemgeinlehmaaGreatDoor.Ref03
open Go.RowKit
set_option linter.unusedVariables false
open Go.Proofs.YtbbemgeinlehmaaGreatDoor.Dig

/-- a number of a sign and digits, as a value -/
abbrev sv (neg : Bool) (m : Value) : Value := .agg #[.bool neg, m]
/-- may the number be -/
def srightB (neg : Bool) (ds : List Nat) : Bool := rightB ds && !(neg && decide (ds.length = 0))
/-- the sign that a number bears: none for nought -/
def signB (neg : Bool) (ds : List Nat) : Bool := neg && decide (0 < ds.length)
/-- ends with a number of the sign and the digits -/
def RetS (neg : Bool) (ds : List Nat) (w : World) (e : Ending) (w' : World) : Prop := ∃ A c, e = .returned (sv neg (.slice A ds.length c)) ∧ Row w' (.slice A ds.length c) ds ∧ Since w w'
def RetSErr (neg : Bool) (ds : List Nat) (x : Int) (w : World) (e : Ending) (w' : World) : Prop := ∃ A c, e = .returned (.tuple #[sv neg (.slice A ds.length c), .int .i64 x]) ∧ Row w' (.slice A ds.length c) ds ∧ Since w w'
/-- the number of a sign and digits -/
def sval (neg : Bool) (ds : List Nat) : Int := if neg = true then -(num ds : Int) else (num ds : Int)
/-- sign and digits of a number -/
def ngB (z : Int) : Bool := decide (z < 0)
def mag (z : Int) : List Nat := digs z.natAbs
theorem mag_len (z : Int) : (decide (0 < (mag z).length)) = decide (z ≠ 0) := by
  by_cases h : z = 0
  · subst h; rfl
  · have : z.natAbs ≠ 0 := by omega
    rw [mag, digs_pos this]; simp [h]
theorem sign_mag (z : Int) (b : Bool) (h : z ≠ 0 → b = ngB z) : signB b (mag z) = ngB z := by
  rw [signB, mag_len]
  by_cases h0 : z = 0
  · subst h0; simp [ngB]
  · rw [h h0]; simp [h0]
theorem hold2 {w W : World} {na nb : Bool} {ma mb : Value} {t : TypeId} {o : Obj} (h : Since (((w.alloc (.cells #[.bool na, ma] t)).alloc (.cells #[.bool nb, mb] t)).alloc o) W) :
    W.cell? ⟨w.heap.size, 0, none⟩ = some (.bool na) ∧ W.cell? ⟨w.heap.size, 1, none⟩ = some ma ∧ W.cell? ⟨w.heap.size + 1, 0, none⟩ = some (.bool nb) ∧ W.cell? ⟨w.heap.size + 1, 1, none⟩ = some mb := by
  refine ⟨?_, ?_, ?_, ?_⟩
  · rw [h.cell ⟨w.heap.size, 0, none⟩ (by simp <;> omega)]; go_simp
  · rw [h.cell ⟨w.heap.size, 1, none⟩ (by simp <;> omega)]; go_simp
  · rw [h.cell ⟨w.heap.size + 1, 0, none⟩ (by simp <;> omega)]; go_simp
  · rw [h.cell ⟨w.heap.size + 1, 1, none⟩ (by simp <;> omega)]; go_simp
/-- the third block is the result's -/
theorem keep3 {w W : World} {o1 o2 : Obj} {z0 z1 : Value} {t : TypeId} (h : Since (((w.alloc o1).alloc o2).alloc (.cells #[z0, z1] t)) W) :
    W.cell? ⟨w.heap.size + 1 + 1, 0, none⟩ = some z0 ∧ W.cell? ⟨w.heap.size + 1 + 1, 1, none⟩ = some z1 ∧ W.frozen? ⟨w.heap.size + 1 + 1, 0, none⟩ = false ∧ W.frozen? ⟨w.heap.size + 1 + 1, 1, none⟩ = false := by
  have h2 := keep2 h
  have e : ((w.alloc o1).alloc o2).heap.size = w.heap.size + 1 + 1 := by simp
  rw [e] at h2
  exact h2
theorem row_set3 {w W : World} {o1 o2 : Obj} {x : Bool} {A : Option Addr} {n c : Nat} {t : TypeId} {v : Value} {ds : List Nat} (h : Row W v ds)
    (hb : Since (((w.alloc o1).alloc o2).alloc (.cells #[.bool x, .slice A n c] t)) W) (u0 u1 : Value) : Row ((W.setCell ⟨w.heap.size + 1 + 1, 0, none⟩ u0).setCell ⟨w.heap.size + 1 + 1, 1, none⟩ u1) v ds := by
  have h2 := row_set2 h hb u0 u1
  have e : ((w.alloc o1).alloc o2).heap.size = w.heap.size + 1 + 1 := by simp
  rw [e] at h2
  exact h2
theorem sum_lt {a b k : Nat} (h1 : a < 4294967296 ^ k) (h2 : b < 4294967296 ^ k) : a + b < 4294967296 ^ (k + 1) := by
  have : (4294967296 : Nat) ^ (k + 1) = 4294967296 ^ k * 4294967296 := Nat.pow_succ ..
  omega
/-- a number, if it has not too many digits -/
def fitZ (z : Int) : (Bool × List Nat) × Int := if (mag z).length ≤ 256 then ((ngB z, mag z), 0) else ((false, []), 3)
def addZ (na : Bool) (xs : List Nat) (nb : Bool) (ys : List Nat) : (Bool × List Nat) × Int := if srightB na xs = true ∧ srightB nb ys = true then fitZ (sval na xs + sval nb ys) else ((false, []), 2)
def mulZ (na : Bool) (xs : List Nat) (nb : Bool) (ys : List Nat) : (Bool × List Nat) × Int := if srightB na xs = true ∧ srightB nb ys = true then fitZ (sval na xs * sval nb ys) else ((false, []), 2)
/-- ends with a number and an error -/
def RetZ (r : (Bool × List Nat) × Int) (w : World) (e : Ending) (w' : World) : Prop := RetSErr r.1.1 r.1.2 r.2 w e w'
theorem sright_right {neg : Bool} {ds : List Nat} (h : srightB neg ds = true) : rightB ds = true := by
  simp [srightB] at h; exact h.1
theorem keep2of {w W : World} {o : Obj} {z0 z1 : Value} {t : TypeId} (h : Since ((w.alloc o).alloc (.cells #[z0, z1] t)) W) :
    W.cell? ⟨w.heap.size + 1, 0, none⟩ = some z0 ∧ W.cell? ⟨w.heap.size + 1, 1, none⟩ = some z1 ∧ W.frozen? ⟨w.heap.size + 1, 0, none⟩ = false ∧ W.frozen? ⟨w.heap.size + 1, 1, none⟩ = false := by
  have h2 := keep2 h
  have e : (w.alloc o).heap.size = w.heap.size + 1 := by simp
  rw [e] at h2
  exact h2
theorem row_set2of {w W : World} {o1 : Obj} {x : Bool} {A : Option Addr} {n c : Nat} {t : TypeId} {v : Value} {ds : List Nat} (h : Row W v ds)
    (hb : Since ((w.alloc o1).alloc (.cells #[.bool x, .slice A n c] t)) W) (u0 u1 : Value) : Row ((W.setCell ⟨w.heap.size + 1, 0, none⟩ u0).setCell ⟨w.heap.size + 1, 1, none⟩ u1) v ds := by
  have h2 := row_set2 h hb u0 u1
  have e : (w.alloc o1).heap.size = w.heap.size + 1 := by simp
  rw [e] at h2
  exact h2
theorem since_set2of {w W : World} {o1 o2 : Obj} (h : Since ((w.alloc o1).alloc o2) W) (u0 u1 : Value) : Since w ((W.setCell ⟨w.heap.size + 1, 0, none⟩ u0).setCell ⟨w.heap.size + 1, 1, none⟩ u1) :=
  (((((Since.refl w).alloc _).alloc _).trans h).set (by show w.heap.size ≤ w.heap.size + 1; omega) _).set (by show w.heap.size ≤ w.heap.size + 1; omega) _
theorem sval_abs (neg : Bool) (ds : List Nat) : (sval neg ds).natAbs = num ds := by
  unfold sval; cases neg <;> simp
theorem add_len {na nb : Bool} {xs ys : List Nat} (dx : IsDig xs) (dy : IsDig ys) (lx : xs.length ≤ 1000) (ly : ys.length ≤ 1000) : (mag (sval na xs + sval nb ys)).length ≤ 1000000 := by
  obtain ⟨k, hk⟩ : ∃ k, k = 1000 := ⟨_, rfl⟩
  rw [← hk] at lx ly
  have h1 := Nat.lt_of_lt_of_le (num_lt dx) (Nat.pow_le_pow_right (n := 4294967296) (by omega) lx)
  have h2 := Nat.lt_of_lt_of_le (num_lt dy) (Nat.pow_le_pow_right (n := 4294967296) (by omega) ly)
  have h3 := Int.natAbs_add_le (sval na xs) (sval nb ys)
  rw [sval_abs, sval_abs] at h3
  exact Nat.le_trans (digs_len_le (k := k + 1) (Nat.lt_of_le_of_lt h3 (sum_lt h1 h2))) (by omega)
theorem mul_len {na nb : Bool} {xs ys : List Nat} (dx : IsDig xs) (dy : IsDig ys) (lx : xs.length ≤ 1000) (ly : ys.length ≤ 1000) : (mag (sval na xs * sval nb ys)).length ≤ 1000000 := by
  unfold mag
  rw [Int.natAbs_mul, sval_abs, sval_abs]
  have := Ref02.prod_len dx dy
  omega
theorem hold2of {w W : World} {na nb : Bool} {ma mb : Value} {t : TypeId} (h : Since ((w.alloc (.cells #[.bool na, ma] t)).alloc (.cells #[.bool nb, mb] t)) W) :
    W.cell? ⟨w.heap.size, 0, none⟩ = some (.bool na) ∧ W.cell? ⟨w.heap.size, 1, none⟩ = some ma ∧ W.cell? ⟨w.heap.size + 1, 0, none⟩ = some (.bool nb) ∧ W.cell? ⟨w.heap.size + 1, 1, none⟩ = some mb := by
  refine ⟨?_, ?_, ?_, ?_⟩
  · rw [h.cell ⟨w.heap.size, 0, none⟩ (by simp <;> omega)]; go_simp
  · rw [h.cell ⟨w.heap.size, 1, none⟩ (by simp <;> omega)]; go_simp
  · rw [h.cell ⟨w.heap.size + 1, 0, none⟩ (by simp <;> omega)]; go_simp
  · rw [h.cell ⟨w.heap.size + 1, 1, none⟩ (by simp <;> omega)]; go_simp
theorem sright_pos {ds : List Nat} (h : srightB true ds = true) : 0 < num ds := by
  have h1 := sright_right h
  have h2 : ds.length ≠ 0 := by
    intro h0
    have : ds = [] := List.eq_nil_of_length_eq_zero h0
    subst this; simp [srightB] at h
  exact num_pos (right_norm h1).2 h2
/-- is a number less than another one -/
def slessB (na : Bool) (xs : List Nat) (nb : Bool) (ys : List Nat) : Bool := decide (sval na xs < sval nb ys)
def cmpZ (na : Bool) (xs : List Nat) (nb : Bool) (ys : List Nat) : Int × Int := if srightB na xs = true ∧ srightB nb ys = true then (if sval na xs < sval nb ys then (-1, 0) else if sval nb ys < sval na xs then (1, 0) else (0, 0)) else (0, 2)
def negZ (na : Bool) (xs : List Nat) : (Bool × List Nat) × Int := if srightB na xs = true then ((ngB (-(sval na xs)), mag (-(sval na xs))), 0) else ((false, []), 2)
theorem hold1of {w W : World} {na : Bool} {ma : Value} {t : TypeId} {o : Obj} (h : Since ((w.alloc (.cells #[.bool na, ma] t)).alloc o) W) :
    W.cell? ⟨w.heap.size, 0, none⟩ = some (.bool na) ∧ W.cell? ⟨w.heap.size, 1, none⟩ = some ma := by
  refine ⟨?_, ?_⟩
  · rw [h.cell ⟨w.heap.size, 0, none⟩ (by simp <;> omega)]; go_simp
  · rw [h.cell ⟨w.heap.size, 1, none⟩ (by simp <;> omega)]; go_simp
def textZ (na : Bool) (xs : List Nat) : List UInt8 × Int := if srightB na xs = true then ((if na = true then 45 :: text (num xs) else text (num xs)), 0) else ([], 2)
theorem hold1 {w W : World} {na : Bool} {ma : Value} {t : TypeId} (h : Since (w.alloc (.cells #[.bool na, ma] t)) W) :
    W.cell? ⟨w.heap.size, 0, none⟩ = some (.bool na) ∧ W.cell? ⟨w.heap.size, 1, none⟩ = some ma := ⟨(keep2 h).1, (keep2 h).2.1⟩
/-- does the number fit the machine's own -/
def fitsI (z : Int) : Prop := -9223372036854775808 ≤ z ∧ z ≤ 9223372036854775807
instance (z : Int) : Decidable (fitsI z) := by unfold fitsI; exact inferInstance
def smallZ (na : Bool) (xs : List Nat) : Int × Int := if srightB na xs = true then (if fitsI (sval na xs) then (sval na xs, 0) else (0, 4)) else (0, 2)
theorem num_long {xs : List Nat} (dx : IsDig xs) (nx : Norm xs) (h : 2 < xs.length) : 18446744073709551616 ≤ num xs := by
  apply Decidable.byContradiction
  intro hn
  have h1 := digs_len_le (n := num xs) (k := 2) (by omega)
  rw [digs_num dx nx] at h1
  omega
/-- ends with a slice that is seen as one, and an error -/
def RetSlErr (r : List Nat × Int) (w : World) (e : Ending) (w' : World) : Prop := ∃ A c, e = .returned (.tuple #[.slice A r.1.length c, .int .i64 r.2]) ∧ Row w' (.slice A r.1.length c) r.1 ∧ Since w w'
theorem RetSlErr.of {r : List Nat × Int} {w : World} {e : Ending} {w' : World} (h : RetRowErr r.1 r.2 w e w') : RetSlErr r w e w' := by
  obtain ⟨v, rfl, hr, hs⟩ := h
  obtain ⟨h1, A, c, rfl, h3, h6⟩ := hr
  exact ⟨A, c, rfl, ⟨h1, A, c, rfl, h3, h6⟩, hs⟩
theorem drop_bytes (s : ByteArray) : (s.extract 1 s.size).data.toList = s.data.toList.drop 1 := by
  rw [ByteArray.data_extract, Array.toList_extract]
  simp only [List.extract]
  rw [List.take_of_length_le]
  rw [List.length_drop, Array.length_toList]; exact Nat.le_refl _
theorem row_same {w : World} {v : Value} {xs ys : List Nat} (hx : Row w v xs) (hy : Row w v ys) : xs = ys := by
  obtain ⟨_, A, c, rfl, h1, _⟩ := hx
  obtain ⟨_, B, d, e, h2, _⟩ := hy
  injection e with e1 hl e3
  subst e1
  apply List.ext_getElem (by omega)
  intro i hi hj
  obtain ⟨b, o, rfl, h3⟩ := h1 (by omega)
  obtain ⟨b', o', e', h4⟩ := h2 (by omega)
  cases e'
  have h5 := (h3 i hi).symm.trans (h4 i hj)
  simp [List.getD, List.getElem?_eq_getElem hi, List.getElem?_eq_getElem hj] at h5
  omega
open Classical in
/-- the number that a slice reads as -/
noncomputable def rdNum (w : World) (v : Value) : Nat := if h : ∃ ds, Row w v ds then num h.choose else 0
theorem rdNum_row {w : World} {v : Value} {ds : List Nat} (h : Row w v ds) : rdNum w v = num ds := by
  unfold rdNum
  rw [dif_pos ⟨ds, h⟩]
  rw [row_same (Exists.choose_spec (⟨ds, h⟩ : ∃ ds, Row w v ds)) h]
/-- two numbers on the way: they are right, and their common divisor is the one sought -/
abbrev OnWay (G : Nat) (us vs : List Nat) : Prop := rightB us = true ∧ rightB vs = true ∧ Nat.gcd (num us) (num vs) = G
theorem OnWay.next {G : Nat} {us vs : List Nat} (h : OnWay G us vs) (dv : IsDig vs) (h0 : vs.length ≠ 0) : OnWay G vs (digs (num us % num vs)) ∧ num (digs (num us % num vs)) < num vs := by
  obtain ⟨h1, h2, h3⟩ := h
  have hp := num_pos (right_norm h2).2 h0
  refine ⟨⟨h2, right_of ?_ (norm_digs _), ?_⟩, ?_⟩
  · exact Nat.le_trans (Nat.le_trans (digs_len_mono (Nat.le_of_lt (Nat.mod_lt _ hp))) (digs_len_num dv)) (right_norm h2).1
  · rw [num_digs, ← h3, Nat.gcd_comm (num us), Nat.gcd_rec (num vs) (num us), Nat.gcd_comm]
  · rw [num_digs]; exact Nat.mod_lt _ hp
theorem OnWay.last {G : Nat} {us vs : List Nat} (h : OnWay G us vs) (du : IsDig us) (h0 : vs.length = 0) : us = digs G ∧ (digs G).length ≤ 256 := by
  obtain ⟨h1, h2, h3⟩ := h
  obtain rfl := List.eq_nil_of_length_eq_zero h0
  have e : us = digs G := by
    rw [← h3, show num [] = 0 from rfl, Nat.gcd_zero_right, digs_num du (right_norm h1).2]
  exact ⟨e, by rw [← e]; exact (right_norm h1).1⟩
def gcdZ (na : Bool) (xs : List Nat) (nb : Bool) (ys : List Nat) : (Bool × List Nat) × Int := if srightB na xs = true ∧ srightB nb ys = true then ((false, digs (Nat.gcd (num xs) (num ys))), 0) else ((false, []), 2)
/-- ends with two numbers and an error -/
def RetQR (q r : Bool × List Nat) (x : Int) (w : World) (e : Ending) (w' : World) : Prop :=
  ∃ A c B d, e = .returned (.tuple #[sv q.1 (.slice A q.2.length c), sv r.1 (.slice B r.2.length d), .int .i64 x]) ∧ Row w' (.slice A q.2.length c) q.2 ∧ Row w' (.slice B r.2.length d) r.2 ∧ Since w w'
/-- the frame of a call that takes two numbers and gives two back -/
abbrev frame4 (w : World) (na nb : Bool) (ma mb : Value) (t : TypeId) : World :=
  (((w.alloc (.cells #[.bool na, ma] t)).alloc (.cells #[.bool nb, mb] t)).alloc (.cells #[.bool false, .slice none 0 0] t)).alloc (.cells #[.bool false, .slice none 0 0] t)
theorem frame4_since (w : World) (na nb : Bool) (ma mb : Value) (t : TypeId) : Since w (frame4 w na nb ma mb t) := ((((Since.refl w).alloc _).alloc _).alloc _).alloc _
theorem frame4_in {w W : World} {na nb : Bool} {ma mb : Value} {t : TypeId} (h : Since (frame4 w na nb ma mb t) W) :
    W.cell? ⟨w.heap.size, 0, none⟩ = some (.bool na) ∧ W.cell? ⟨w.heap.size, 1, none⟩ = some ma ∧ W.cell? ⟨w.heap.size + 1, 0, none⟩ = some (.bool nb) ∧ W.cell? ⟨w.heap.size + 1, 1, none⟩ = some mb :=
  hold2 ((since_alloc _ _).trans h)
theorem frame4_out {w W : World} {na nb : Bool} {ma mb : Value} {t : TypeId} (h : Since (frame4 w na nb ma mb t) W) :
    (W.cell? ⟨w.heap.size + 1 + 1, 0, none⟩ = some (.bool false) ∧ W.cell? ⟨w.heap.size + 1 + 1, 1, none⟩ = some (.slice none 0 0) ∧ W.frozen? ⟨w.heap.size + 1 + 1, 0, none⟩ = false ∧ W.frozen? ⟨w.heap.size + 1 + 1, 1, none⟩ = false) ∧
    (W.cell? ⟨w.heap.size + 1 + 1 + 1, 0, none⟩ = some (.bool false) ∧ W.cell? ⟨w.heap.size + 1 + 1 + 1, 1, none⟩ = some (.slice none 0 0) ∧ W.frozen? ⟨w.heap.size + 1 + 1 + 1, 0, none⟩ = false ∧ W.frozen? ⟨w.heap.size + 1 + 1 + 1, 1, none⟩ = false) := by
  refine ⟨keep3 ((since_alloc _ _).trans h), ?_⟩
  have h2 := keep2 h
  have e : (((w.alloc (.cells #[.bool na, ma] t)).alloc (.cells #[.bool nb, mb] t)).alloc (.cells #[.bool false, .slice none 0 0] t)).heap.size = w.heap.size + 1 + 1 + 1 := by simp
  rw [e] at h2
  exact h2
theorem frame4_blocks {w W : World} {na nb : Bool} {ma mb : Value} {t : TypeId} (h : Since (frame4 w na nb ma mb t) W) :
    W.heap[w.heap.size + 1 + 1]? = some (.cells #[.bool false, .slice none 0 0] t) ∧ W.heap[w.heap.size + 1 + 1 + 1]? = some (.cells #[.bool false, .slice none 0 0] t) := by
  have h1 := block_new ((since_alloc _ _).trans h)
  have h2 := block_new h
  have e1 : ((w.alloc (.cells #[.bool na, ma] t)).alloc (.cells #[.bool nb, mb] t)).heap.size = w.heap.size + 1 + 1 := by simp
  have e2 : (((w.alloc (.cells #[.bool na, ma] t)).alloc (.cells #[.bool nb, mb] t)).alloc (.cells #[.bool false, .slice none 0 0] t)).heap.size = w.heap.size + 1 + 1 + 1 := by simp
  rw [e1] at h1
  rw [e2] at h2
  exact ⟨h1, h2⟩
theorem row_set4 {w W : World} {na nb : Bool} {ma mb : Value} {t : TypeId} {v : Value} {ds : List Nat} (h : Row W v ds) (hb : Since (frame4 w na nb ma mb t) W) (u0 u1 u2 u3 : Value) :
    Row ((((W.setCell ⟨w.heap.size + 1 + 1, 0, none⟩ u0).setCell ⟨w.heap.size + 1 + 1, 1, none⟩ u1).setCell ⟨w.heap.size + 1 + 1 + 1, 0, none⟩ u2).setCell ⟨w.heap.size + 1 + 1 + 1, 1, none⟩ u3) v ds := by
  obtain ⟨h1, h2⟩ := frame4_blocks hb
  have hf : ∀ k, k ≠ w.heap.size + 1 + 1 → ((W.setCell ⟨w.heap.size + 1 + 1, 0, none⟩ u0).setCell ⟨w.heap.size + 1 + 1, 1, none⟩ u1).heap[k]? = W.heap[k]? := fun k hk => by
    rw [Below.heap_setCell _ _ _ _ (by simpa using hk), Below.heap_setCell _ _ _ _ (by simpa using hk)]
  have h3 := row_far h h1 hf
  refine row_far h3 (b := w.heap.size + 1 + 1 + 1) ((hf _ (by omega)).trans h2) fun k hk => ?_
  rw [Below.heap_setCell _ _ _ _ (by simpa using hk), Below.heap_setCell _ _ _ _ (by simpa using hk)]
theorem since_set4 {w W : World} {na nb : Bool} {ma mb : Value} {t : TypeId} (hb : Since (frame4 w na nb ma mb t) W) (u0 u1 u2 u3 : Value) :
    Since w ((((W.setCell ⟨w.heap.size + 1 + 1, 0, none⟩ u0).setCell ⟨w.heap.size + 1 + 1, 1, none⟩ u1).setCell ⟨w.heap.size + 1 + 1 + 1, 0, none⟩ u2).setCell ⟨w.heap.size + 1 + 1 + 1, 1, none⟩ u3) :=
  (((((frame4_since _ _ _ _ _ _).trans hb).set (by show w.heap.size ≤ w.heap.size + 1 + 1; omega) _).set (by show w.heap.size ≤ w.heap.size + 1 + 1; omega) _).set (by show w.heap.size ≤ w.heap.size + 1 + 1 + 1; omega) _).set (by show w.heap.size ≤ w.heap.size + 1 + 1 + 1; omega) _
/-- a number of a sign and a magnitude -/
def sgn (b : Bool) (n : Nat) : Int := if b = true then -(n : Int) else (n : Int)
theorem floorPos {a b q r : Int} (hb : 0 < b) (h : r + b * q = a) (h1 : 0 ≤ r) (h2 : r < b) : a.fdiv b = q ∧ a.fmod b = r := by
  have := (Int.ediv_emod_unique (a := a) (q := q) (r := r) hb).2 ⟨h, h1, h2⟩
  rw [Int.fdiv_eq_ediv_of_nonneg _ (by omega), Int.fmod_eq_emod_of_nonneg _ (by omega)]
  exact this
theorem floorNeg {a b q r : Int} (hb : b < 0) (h : r + b * q = a) (h1 : r ≤ 0) (h2 : b < r) : a.fdiv b = q ∧ a.fmod b = r := by
  have e : a.fdiv b = q := by
    have := (floorPos (a := -a) (b := -b) (q := q) (r := -r) (by omega) (by rw [Int.neg_mul]; omega) (by omega) (by omega)).1
    rwa [Int.neg_fdiv_neg] at this
  refine ⟨e, ?_⟩
  rw [Int.fmod_def, e]; omega
theorem floorSg {a : Int} {b : Bool} {Y : Nat} {q r : Int} (hY : 0 < Y) (h : (if b = true then -r else r) + (sgn b Y) * q = a) (h1 : 0 ≤ r) (h2 : r < Y) : a.fdiv (sgn b Y) = q ∧ a.fmod (sgn b Y) = (if b = true then -r else r) := by
  cases b
  · exact floorPos (by simp [sgn]; omega) h (by simpa using h1) (by simpa [sgn] using h2)
  · exact floorNeg (by simp [sgn]; omega) h (by simp; omega) (by simp [sgn]; omega)
theorem nat_parts (X Y : Nat) : ((Y : Int) * ((X / Y : Nat) : Int)) + ((X % Y : Nat) : Int) = X := by
  rw [← Int.natCast_mul, ← Int.natCast_add, Nat.div_add_mod]
theorem floor_same {b : Bool} {X Y : Nat} (hY : 0 < Y) : (sgn b X).fdiv (sgn b Y) = ((X / Y : Nat) : Int) ∧ (sgn b X).fmod (sgn b Y) = sgn b (X % Y) := by
  have h := nat_parts X Y
  have h2 := Nat.mod_lt X hY
  obtain ⟨q, hq⟩ : ∃ q, q = X / Y := ⟨_, rfl⟩
  obtain ⟨r, hr⟩ : ∃ r, r = X % Y := ⟨_, rfl⟩
  rw [← hq, ← hr] at h
  rw [← hr] at h2
  rw [← hq, ← hr]
  clear hq hr
  refine floorSg (r := (r : Int)) hY ?_ (by omega) (by omega)
  cases b <;> simp only [sgn, if_true, Bool.false_eq_true, if_false, Int.neg_mul] <;> omega
theorem floor_diff0 {a b : Bool} {X Y : Nat} (hY : 0 < Y) (hab : (a == b) = false) (h0 : X % Y = 0) : (sgn a X).fdiv (sgn b Y) = -((X / Y : Nat) : Int) ∧ (sgn a X).fmod (sgn b Y) = 0 := by
  have h := nat_parts X Y
  rw [h0] at h
  obtain ⟨q, hq⟩ : ∃ q, q = X / Y := ⟨_, rfl⟩
  rw [← hq] at h
  rw [← hq]
  clear hq
  have := floorSg (a := sgn a X) (b := b) (q := -(q : Int)) (r := 0) hY (by
    cases a <;> cases b <;> simp at hab <;> simp only [sgn, if_true, Bool.false_eq_true, if_false, Int.neg_mul, Int.mul_neg] <;> omega) (by omega) (by omega)
  refine ⟨this.1, this.2.trans ?_⟩
  cases b <;> simp
theorem floor_diff1 {a b : Bool} {X Y : Nat} (hY : 0 < Y) (hab : (a == b) = false) (h0 : X % Y ≠ 0) : (sgn a X).fdiv (sgn b Y) = -((X / Y + 1 : Nat) : Int) ∧ (sgn a X).fmod (sgn b Y) = sgn b (Y - X % Y) := by
  have h := nat_parts X Y
  have h2 := Nat.mod_lt X hY
  obtain ⟨q, hq⟩ : ∃ q, q = X / Y := ⟨_, rfl⟩
  obtain ⟨r, hr⟩ : ∃ r, r = X % Y := ⟨_, rfl⟩
  rw [← hq, ← hr] at h
  rw [← hr] at h0 h2
  rw [← hq, ← hr]
  clear hq hr
  have e : ((Y - r : Nat) : Int) = (Y : Int) - r := by omega
  have := floorSg (a := sgn a X) (b := b) (q := -((q + 1 : Nat) : Int)) (r := ((Y - r : Nat) : Int)) hY (by
    rw [e]
    cases a <;> cases b <;> simp at hab <;> simp only [sgn, if_true, Bool.false_eq_true, if_false, Int.neg_mul, Int.mul_neg, Int.natCast_add, Int.mul_add, Int.natCast_one, Int.mul_one] <;> omega) (by omega) (by omega)
  exact this
/-- the quotient rounded down, and the rest, which bears the divisor's sign -/
def divZ (na : Bool) (xs : List Nat) (nb : Bool) (ys : List Nat) : ((Bool × List Nat) × (Bool × List Nat)) × Int :=
  if (srightB na xs = true ∧ srightB nb ys = true) ∧ ys.length ≠ 0 then
    (((ngB ((sval na xs).fdiv (sval nb ys)), mag ((sval na xs).fdiv (sval nb ys))), (ngB ((sval na xs).fmod (sval nb ys)), mag ((sval na xs).fmod (sval nb ys)))), 0)
  else (((false, []), (false, [])), 2)
theorem ng_sgn (b : Bool) (n : Nat) : signB b (digs n) = ngB (sgn b n) ∧ digs n = mag (sgn b n) := by
  have e : mag (sgn b n) = digs n := by unfold mag sgn; cases b <;> simp
  refine ⟨?_, e.symm⟩
  have h := sign_mag (sgn b n) b (fun hz => by unfold ngB sgn at *; cases b <;> simp at hz ⊢ <;> omega)
  rwa [e] at h
end Go.Proofs.YtbbemgeinlehmaaGreatDoor.Ref03

namespace Go.Proofs.YtbbemgeinlehmaaGreatDoor.Ref03
open Go.RowKit
set_option linter.unusedVariables false
open Go.Proofs.YtbbemgeinlehmaaGreatDoor.Dig

theorem fitZ_len (z : Int) : (fitZ z).1.2.length ≤ 256 := by
  unfold fitZ; split
  · assumption
  · simp
theorem addZ_len (na : Bool) (xs : List Nat) (nb : Bool) (ys : List Nat) : (addZ na xs nb ys).1.2.length ≤ 256 := by
  unfold addZ; split
  · exact fitZ_len _
  · simp
theorem mulZ_len (na : Bool) (xs : List Nat) (nb : Bool) (ys : List Nat) : (mulZ na xs nb ys).1.2.length ≤ 256 := by
  unfold mulZ; split
  · exact fitZ_len _
  · simp
theorem negZ_len (na : Bool) {xs : List Nat} (dx : IsDig xs) : (negZ na xs).1.2.length ≤ xs.length := by
  unfold negZ; split
  · show (mag _).length ≤ _
    unfold mag; rw [Int.natAbs_neg, sval_abs]; exact digs_len_num dx
  · simp
end Go.Proofs.YtbbemgeinlehmaaGreatDoor.Ref03

namespace Go.Proofs.YtbbemgeinlehmaaGreatDoor.Ref02
open Go.RowKit
set_option linter.unusedVariables false
open Go.Proofs.YtbbemgeinlehmaaGreatDoor.Dig

/-- what the document says of Text -/
def textD (xs : List Nat) : List UInt8 × Int := if rightB xs = true then (text (num xs), 0) else ([], 2)

end Go.Proofs.YtbbemgeinlehmaaGreatDoor.Ref02
