/- Plain facts on digits to the base 2^32: the number of a list of digits, the digits of a number. No Go in sight. -/
import Derived.WalkKit
namespace Go.Proofs.Ytakfabaocgbbmaa.Dig

def num : List Nat → Nat
  | [] => 0
  | d :: r => d + 4294967296 * num r

def IsDig (ds : List Nat) : Prop := ∀ d ∈ ds, d < 4294967296

/-- the digits of a number, by the number of digits that there may be at most -/
def digsF : Nat → Nat → List Nat
  | 0, _ => []
  | f + 1, n => if n = 0 then [] else n % 4294967296 :: digsF f (n / 4294967296)
def digs (n : Nat) : List Nat := digsF n n

theorem digsF_more : ∀ (f n : Nat), n ≤ f → digsF f n = digsF n n := by
  intro f
  induction f using Nat.strongRecOn with
  | _ f ih =>
    intro n h
    rcases Nat.eq_or_lt_of_le h with rfl | hlt
    · rfl
    · cases f with
      | zero => omega
      | succ f =>
        cases n with
        | zero => simp [digsF]
        | succ n =>
          simp only [digsF]
          rw [if_neg (by omega), if_neg (by omega)]
          have hle : (n + 1) / 4294967296 ≤ n := by omega
          rw [ih f (by omega) _ (by omega)]
          congr 1
          by_cases hn : n < f + 1
          · exact (ih n (by omega) _ hle).symm
          · omega
theorem digs_zero : digs 0 = [] := rfl
theorem digs_pos {n : Nat} (h : n ≠ 0) : digs n = n % 4294967296 :: digs (n / 4294967296) := by
  unfold digs
  obtain ⟨m, rfl⟩ : ∃ m, n = m + 1 := ⟨n - 1, by omega⟩
  rw [digsF, if_neg h]
  congr 1
  exact digsF_more _ _ (by omega)

theorem num_digs (n : Nat) : num (digs n) = n := by
  induction n using Nat.strongRecOn with
  | _ n ih =>
    by_cases h : n = 0
    · subst h; rfl
    · rw [digs_pos h, num, ih _ (by omega)]
      omega
theorem isDig_digs (n : Nat) : IsDig (digs n) := by
  induction n using Nat.strongRecOn with
  | _ n ih =>
    by_cases h : n = 0
    · subst h; intro d hd; simp [digs_zero] at hd
    · rw [digs_pos h]
      intro d hd
      rcases List.mem_cons.mp hd with rfl | hd
      · omega
      · exact ih _ (by omega) d hd

theorem isDig_tail {d : Nat} {r : List Nat} (h : IsDig (d :: r)) : d < 4294967296 ∧ IsDig r := ⟨h d (by simp), fun x hx => h x (by simp [hx])⟩
theorem isDig_nil : IsDig [] := by intro d hd; simp at hd
theorem isDig_take {ds : List Nat} (h : IsDig ds) (k : Nat) : IsDig (ds.take k) := fun d hd => h d (List.mem_of_mem_take hd)
theorem isDig_append {xs ys : List Nat} (h : IsDig xs) (k : IsDig ys) : IsDig (xs ++ ys) := fun d hd => by
  rcases List.mem_append.mp hd with hd | hd
  · exact h d hd
  · exact k d hd
theorem isDig_one {d : Nat} (h : d < 4294967296) : IsDig [d] := fun x hx => by simp at hx; omega
theorem getD_lt {ds : List Nat} (h : IsDig ds) (k : Nat) : ds.getD k 0 < 4294967296 := by
  by_cases hk : k < ds.length
  · have e : ds.getD k 0 = ds[k] := by simp [List.getD, hk]
    rw [e]; exact h _ (List.getElem_mem hk)
  · have e : ds.getD k 0 = 0 := by simp [List.getD, Nat.le_of_not_lt hk]
    omega

theorem num_append (xs ys : List Nat) : num (xs ++ ys) = num xs + 4294967296 ^ xs.length * num ys := by
  induction xs with
  | nil => simp [num]
  | cons d r ih =>
    simp only [List.cons_append, num, ih, List.length_cons, Nat.pow_succ]
    rw [Nat.mul_add, Nat.add_assoc, ← Nat.mul_assoc, Nat.mul_comm 4294967296 (4294967296 ^ r.length)]
theorem num_lt {xs : List Nat} (h : IsDig xs) : num xs < 4294967296 ^ xs.length := by
  induction xs with
  | nil => simp [num]
  | cons d r ih =>
    obtain ⟨h1, h2⟩ := isDig_tail h
    have := ih h2
    simp only [num, List.length_cons, Nat.pow_succ]
    omega
theorem num_one (d : Nat) : num [d] = d := by simp [num]

/-- the last digit, if there is one, is not 0 -/
def Norm (ds : List Nat) : Prop := ds.length = 0 ∨ ds.getD (ds.length - 1) 0 ≠ 0

theorem norm_digs (n : Nat) : Norm (digs n) := by
  induction n using Nat.strongRecOn with
  | _ n ih =>
    by_cases h : n = 0
    · subst h; left; rfl
    · right
      rw [digs_pos h]
      by_cases h2 : n / 4294967296 = 0
      · rw [h2, digs_zero]; simp; omega
      · rcases ih (n / 4294967296) (by omega) with h3 | h3
        · rw [digs_pos h2] at h3; simp at h3
        · have hl : (digs (n / 4294967296)).length ≠ 0 := by rw [digs_pos h2]; simp
          obtain ⟨k, hk⟩ : ∃ k, (digs (n / 4294967296)).length = k + 1 := ⟨(digs (n / 4294967296)).length - 1, by omega⟩
          rw [hk] at h3
          simp only [List.length_cons, hk, Nat.add_sub_cancel] at h3 ⊢
          simpa [List.getD] using h3
theorem norm_tail {d : Nat} {r : List Nat} (h : Norm (d :: r)) : Norm r := by
  rcases h with h | h
  · simp at h
  · cases r with
    | nil => left; rfl
    | cons e r => right; simpa [List.getD] using h

/-- digits that are right are those of their number -/
theorem digs_num {ds : List Nat} (h : IsDig ds) (hn : Norm ds) : digs (num ds) = ds := by
  induction ds with
  | nil => rfl
  | cons d r ih =>
    obtain ⟨h1, h2⟩ := isDig_tail h
    have ih' := ih h2 (norm_tail hn)
    have hne : num (d :: r) ≠ 0 := by
      intro h0
      simp only [num] at h0
      have hr : num r = 0 := by omega
      rw [hr, digs_zero] at ih'
      subst ih'
      rcases hn with hn | hn
      · simp at hn
      · simp at hn; omega
    rw [digs_pos hne]
    have e1 : num (d :: r) % 4294967296 = d := by simp only [num]; omega
    have e2 : num (d :: r) / 4294967296 = num r := by simp only [num]; omega
    rw [e1, e2, ih']
theorem num_inj {xs ys : List Nat} (h1 : IsDig xs) (h2 : Norm xs) (h3 : IsDig ys) (h4 : Norm ys) (h : num xs = num ys) : xs = ys := by
  rw [← digs_num h1 h2, ← digs_num h3 h4, h]

/-- noughts at the end change nothing -/
theorem num_take_zero {ds : List Nat} {k : Nat} (hk : k ≤ ds.length) (h : ∀ i, k ≤ i → i < ds.length → ds.getD i 0 = 0) : num (ds.take k) = num ds := by
  induction ds generalizing k with
  | nil => simp
  | cons d r ih =>
    cases k with
    | zero =>
      have h0 : d = 0 := by simpa using h 0 (by omega) (by simp)
      have h1 : num (r.take 0) = num r := ih (k := 0) (by omega) (fun i _ hi => by simpa [List.getD] using h (i + 1) (by omega) (by simpa using hi))
      simp only [List.take_zero, num] at h1 ⊢
      omega
    | succ k =>
      simp only [List.take_succ_cons, num]
      rw [ih (k := k) (by simpa using hk) (fun i hi1 hi2 => by simpa [List.getD] using h (i + 1) (by omega) (by simpa using hi2))]

theorem digs_len_le {n k : Nat} (h : n < 4294967296 ^ k) : (digs n).length ≤ k := by
  induction k generalizing n with
  | zero =>
    have : n = 0 := by simpa using h
    subst this; simp [digs_zero]
  | succ k ih =>
    by_cases h0 : n = 0
    · subst h0; simp [digs_zero]
    · rw [digs_pos h0]
      have : n / 4294967296 < 4294967296 ^ k := by
        rw [Nat.div_lt_iff_lt_mul (by omega)]; rw [Nat.pow_succ] at h; exact h
      have := ih this
      simp; omega
theorem digs_len_gt {n k : Nat} (h : 4294967296 ^ k ≤ n) : k < (digs n).length := by
  have h1 := num_lt (isDig_digs n)
  rw [num_digs] at h1
  rcases Nat.lt_or_ge k (digs n).length with h2 | h2
  · exact h2
  · have := Nat.pow_le_pow_right (n := 4294967296) (by omega) h2
    omega

/-- to take one digit more -/
theorem take_more {ds : List Nat} {k : Nat} (h : k < ds.length) : ds.take (k + 1) = ds.take k ++ [ds.getD k 0] := by
  rw [List.take_succ_eq_append_getElem h]
  simp [List.getD, h]
theorem num_take_more {ds : List Nat} {k : Nat} (h : k < ds.length) : num (ds.take (k + 1)) = num (ds.take k) + 4294967296 ^ k * ds.getD k 0 := by
  rw [take_more h, num_append, num_one, List.length_take, Nat.min_eq_left (by omega)]
/-- from place k on -/
theorem drop_one {ds : List Nat} {k : Nat} (h : k < ds.length) : ds.drop k = ds.getD k 0 :: ds.drop (k + 1) := by
  rw [List.drop_eq_getElem_cons h]
  simp [List.getD, h]

/-- the number, parted at a place -/
theorem num_at {ds : List Nat} {j : Nat} (h : j < ds.length) : num ds = num (ds.take j) + 4294967296 ^ j * (ds.getD j 0 + 4294967296 * num (ds.drop (j + 1))) := by
  have e : ds = ds.take j ++ (ds.getD j 0 :: ds.drop (j + 1)) := by rw [← drop_one h, List.take_append_drop]
  have := num_append (ds.take j) (ds.getD j 0 :: ds.drop (j + 1))
  rw [← e, List.length_take, Nat.min_eq_left (by omega)] at this
  exact this
theorem num_take_lt {ds : List Nat} (hd : IsDig ds) {j : Nat} (h : j ≤ ds.length) : num (ds.take j) < 4294967296 ^ j := by
  have := num_lt (isDig_take hd j)
  rwa [List.length_take, Nat.min_eq_left h] at this
/-- of two lists that are one from some place on, the digit before it tells which is less -/
theorem less_at {xs ys : List Nat} (hx : IsDig xs) (hl : xs.length = ys.length) {j : Nat} (h : j < xs.length) (he : xs.drop (j + 1) = ys.drop (j + 1)) (hlt : xs.getD j 0 < ys.getD j 0) : num xs < num ys := by
  rw [num_at h, num_at (ds := ys) (j := j) (by omega), he]
  have h1 := num_take_lt hx (j := j) (by omega)
  have h2 : 4294967296 ^ j * (xs.getD j 0 + 4294967296 * num (ys.drop (j + 1)) + 1) ≤ 4294967296 ^ j * (ys.getD j 0 + 4294967296 * num (ys.drop (j + 1))) := Nat.mul_le_mul_left _ (by omega)
  rw [Nat.mul_add (4294967296 ^ j) _ 1] at h2
  omega
/-- of right digits the longer ones are the greater number -/
theorem len_less {xs ys : List Nat} (hx : IsDig xs) (hy : Norm ys) (hl : xs.length < ys.length) : num xs < num ys := by
  have h1 := num_lt hx
  have h2 : 4294967296 ^ (ys.length - 1) ≤ num ys := by
    rcases hy with hy | hy
    · omega
    · rw [num_at (j := ys.length - 1) (by omega)]
      have : 4294967296 ^ (ys.length - 1) * 1 ≤ 4294967296 ^ (ys.length - 1) * (ys.getD (ys.length - 1) 0 + 4294967296 * num (ys.drop (ys.length - 1 + 1))) := Nat.mul_le_mul_left _ (by omega)
      omega
  have h3 := Nat.pow_le_pow_right (n := 4294967296) (by omega) (show xs.length ≤ ys.length - 1 by omega)
  omega
/-- is it less, as the digits tell -/
def lessB (xs ys : List Nat) : Bool := if xs.length = ys.length then decide (num xs < num ys) else decide (xs.length < ys.length)
theorem lessB_norm {xs ys : List Nat} (hx : IsDig xs) (hy : IsDig ys) (nx : Norm xs) (ny : Norm ys) : lessB xs ys = decide (num xs < num ys) := by
  unfold lessB
  split
  · rfl
  · rename_i hne
    rcases Nat.lt_or_gt_of_ne hne with h | h
    · rw [decide_eq_true h, decide_eq_true (len_less hx ny h)]
    · rw [decide_eq_false (by omega), decide_eq_false (by have := len_less hy nx h; omega)]
/-- are they the very same -/
def sameB (xs ys : List Nat) : Bool := decide (xs = ys)
theorem take_all_eq {xs ys : List Nat} (hl : xs.length = ys.length) (h : xs.take xs.length = ys.take xs.length) : xs = ys := by
  rw [List.take_length, hl, List.take_length] at h; exact h
theorem take_more_eq {xs ys : List Nat} (hl : xs.length = ys.length) {k : Nat} (hk : k < xs.length) (h : xs.take k = ys.take k) (hd : xs.getD k 0 = ys.getD k 0) : xs.take (k + 1) = ys.take (k + 1) := by
  rw [take_more hk, take_more (ds := ys) (k := k) (by omega), h, hd]
theorem drop_more_eq {xs ys : List Nat} (hl : xs.length = ys.length) {k : Nat} (hk : k < xs.length) (h : xs.drop (k + 1) = ys.drop (k + 1)) (hd : xs.getD k 0 = ys.getD k 0) : xs.drop k = ys.drop k := by
  rw [drop_one hk, drop_one (ds := ys) (k := k) (by omega), h, hd]
/-- digits with noughts at the end left out -/
theorem digs_trim {ds : List Nat} (hd : IsDig ds) {k : Nat} (hk : k ≤ ds.length) (h : ∀ i, k ≤ i → i < ds.length → ds.getD i 0 = 0) (hn : k = 0 ∨ ds.getD (k - 1) 0 ≠ 0) : digs (num ds) = ds.take k := by
  rw [← num_take_zero hk h]
  refine digs_num (isDig_take hd k) ?_
  rcases hn with rfl | hn
  · left; simp
  · by_cases h0 : k = 0
    · subst h0; left; simp
    · right
      rw [List.length_take, Nat.min_eq_left hk]
      have : (ds.take k).getD (k - 1) 0 = ds.getD (k - 1) 0 := by
        simp only [List.getD, List.getElem?_take]
        rw [if_pos (by omega)]
      rw [this]; exact hn

theorem num_take_succ (ds : List Nat) (k : Nat) : num (ds.take (k + 1)) = num (ds.take k) + 4294967296 ^ k * ds.getD k 0 := by
  by_cases h : k < ds.length
  · exact num_take_more h
  · have e : ds.getD k 0 = 0 := by simp [List.getD, Nat.le_of_not_lt h]
    rw [e, List.take_of_length_le (by omega), List.take_of_length_le (by omega)]; simp
theorem num_snoc (acc : List Nat) (d : Nat) : num (acc ++ [d]) = num acc + 4294967296 ^ acc.length * d := by rw [num_append, num_one]
theorem isDig_snoc {acc : List Nat} (h : IsDig acc) {d : Nat} (hd : d < 4294967296) : IsDig (acc ++ [d]) := isDig_append h (isDig_one hd)

/-- a step of the sum -/
theorem plus_step {xs ys acc : List Nat} {k c : Nat} (hl : acc.length = k) (h : num acc + 4294967296 ^ k * c = num (xs.take k) + num (ys.take k)) :
    num (acc ++ [(xs.getD k 0 + ys.getD k 0 + c) % 4294967296]) + 4294967296 ^ (k + 1) * ((xs.getD k 0 + ys.getD k 0 + c) / 4294967296) = num (xs.take (k + 1)) + num (ys.take (k + 1)) := by
  rw [num_snoc, hl, num_take_succ, num_take_succ]
  generalize hn : xs.getD k 0 + ys.getD k 0 + c = n
  have e : 4294967296 ^ k * (n % 4294967296) + 4294967296 ^ (k + 1) * (n / 4294967296) = 4294967296 ^ k * n := by
    rw [Nat.pow_succ, Nat.mul_assoc, ← Nat.mul_add, Nat.mod_add_div]
  have e2 : 4294967296 ^ k * n = 4294967296 ^ k * xs.getD k 0 + 4294967296 ^ k * ys.getD k 0 + 4294967296 ^ k * c := by
    rw [← hn, Nat.mul_add, Nat.mul_add]
  omega
theorem plus_end {xs ys acc : List Nat} {m c : Nat} (hx : IsDig xs) (hy : IsDig ys) (lx : xs.length ≤ m) (ly : ys.length ≤ m)
    (h : num acc + 4294967296 ^ (m + 1) * c = num (xs.take (m + 1)) + num (ys.take (m + 1))) : num acc = num xs + num ys := by
  rw [List.take_of_length_le (by omega), List.take_of_length_le (by omega)] at h
  have h1 := num_lt hx
  have h2 := num_lt hy
  have h3 := Nat.pow_le_pow_right (n := 4294967296) (by omega) lx
  have h4 := Nat.pow_le_pow_right (n := 4294967296) (by omega) ly
  rcases Nat.eq_zero_or_pos c with rfl | hc
  · rw [Nat.mul_zero] at h; omega
  · exfalso
    have h5 : 4294967296 ^ (m + 1) ≤ 4294967296 ^ (m + 1) * c := Nat.le_mul_of_pos_right _ hc
    have h6 : 4294967296 ^ (m + 1) = 4294967296 ^ m * 4294967296 := Nat.pow_succ ..
    generalize 4294967296 ^ (m + 1) * c = X at *
    generalize 4294967296 ^ (m + 1) = Y at *
    generalize 4294967296 ^ m = Z at *
    generalize 4294967296 ^ xs.length = Z1 at *
    generalize 4294967296 ^ ys.length = Z2 at *
    omega
/-- a step of the difference: the borrow is 0 or 1 -/
theorem minus_step {xs ys acc : List Nat} {k b : Nat} (hl : acc.length = k) (hxd : xs.getD k 0 < 4294967296) (hyd : ys.getD k 0 < 4294967296) (hb : b ≤ 1) (h : num acc + num (ys.take k) = num (xs.take k) + 4294967296 ^ k * b) :
    num (acc ++ [(4294967296 + xs.getD k 0 - ys.getD k 0 - b) % 4294967296]) + num (ys.take (k + 1)) = num (xs.take (k + 1)) + 4294967296 ^ (k + 1) * (1 - (4294967296 + xs.getD k 0 - ys.getD k 0 - b) / 4294967296) := by
  rw [num_snoc, hl, num_take_succ, num_take_succ]
  generalize xs.getD k 0 = x at *
  generalize ys.getD k 0 = y at *
  generalize hn : 4294967296 + x - y - b = n
  have hq : n / 4294967296 ≤ 1 := by omega
  have e : 4294967296 ^ k * (n % 4294967296) + 4294967296 ^ k * y + 4294967296 ^ k * b = 4294967296 ^ k * x + 4294967296 ^ (k + 1) * (1 - n / 4294967296) := by
    rw [Nat.pow_succ, Nat.mul_assoc, ← Nat.mul_add, ← Nat.mul_add, ← Nat.mul_add]
    congr 1
    omega
  omega
theorem minus_end {xs ys acc : List Nat} {b : Nat} (hx : IsDig xs) (hd : IsDig acc) (hl : acc.length = xs.length) (ly : ys.length ≤ xs.length) (hle : num ys ≤ num xs)
    (h : num acc + num (ys.take xs.length) = num (xs.take xs.length) + 4294967296 ^ xs.length * b) : num acc = num xs - num ys := by
  rw [List.take_of_length_le ly, List.take_length] at h
  have h1 := num_lt hx
  have h2 := num_lt hd
  rw [hl] at h2
  rcases Nat.eq_zero_or_pos b with rfl | hc
  · omega
  · exfalso
    have h5 : 4294967296 ^ xs.length * 1 ≤ 4294967296 ^ xs.length * b := Nat.mul_le_mul_left _ hc
    omega
/-- noughts -/
theorem num_noughts (k : Nat) : num (List.replicate k 0) = 0 := by
  induction k with
  | zero => rfl
  | succ k ih => rw [List.replicate_succ, num, ih]
theorem isDig_noughts (k : Nat) : IsDig (List.replicate k 0) := fun d hd => by
  have := List.eq_of_mem_replicate hd; omega
/-- a step of the product with a digit -/
theorem scaled_step {xs acc : List Nat} {by_ k c d : Nat} (hl : acc.length = by_ + k) (h : num acc + 4294967296 ^ (by_ + k) * c = 4294967296 ^ by_ * (num (xs.take k) * d)) :
    num (acc ++ [(xs.getD k 0 * d + c) % 4294967296]) + 4294967296 ^ (by_ + (k + 1)) * ((xs.getD k 0 * d + c) / 4294967296) = 4294967296 ^ by_ * (num (xs.take (k + 1)) * d) := by
  rw [num_snoc, hl, num_take_succ]
  generalize hn : xs.getD k 0 * d + c = n
  have e : 4294967296 ^ (by_ + k) * (n % 4294967296) + 4294967296 ^ (by_ + (k + 1)) * (n / 4294967296) = 4294967296 ^ (by_ + k) * n := by
    rw [← Nat.add_assoc, Nat.pow_succ, Nat.mul_assoc, ← Nat.mul_add, Nat.mod_add_div]
  have e2 : 4294967296 ^ (by_ + k) * n = 4294967296 ^ by_ * (4294967296 ^ k * xs.getD k 0 * d) + 4294967296 ^ (by_ + k) * c := by
    rw [← hn, Nat.mul_add, Nat.pow_add, Nat.mul_assoc, Nat.mul_assoc, Nat.mul_assoc]
  rw [Nat.add_mul, Nat.mul_add]
  omega
theorem scaled_end {xs acc : List Nat} {by_ c d : Nat} (hx : IsDig xs) (hd : d < 4294967296) (h : num acc + 4294967296 ^ (by_ + (xs.length + 1)) * c = 4294967296 ^ by_ * (num (xs.take (xs.length + 1)) * d)) :
    num acc = 4294967296 ^ by_ * (num xs * d) := by
  rw [List.take_of_length_le (by omega)] at h
  have h1 := num_lt hx
  rcases Nat.eq_zero_or_pos c with rfl | hc
  · rw [Nat.mul_zero] at h; omega
  · exfalso
    have h5 : 4294967296 ^ (by_ + (xs.length + 1)) ≤ 4294967296 ^ (by_ + (xs.length + 1)) * c := Nat.le_mul_of_pos_right _ hc
    have h6 : num xs * d < 4294967296 ^ xs.length * 4294967296 := by
      rcases Nat.eq_zero_or_pos d with rfl | hd0
      · have := Nat.pow_pos (n := xs.length) (show 0 < 4294967296 by omega); omega
      · calc num xs * d < 4294967296 ^ xs.length * d := Nat.mul_lt_mul_of_pos_right h1 hd0
          _ ≤ 4294967296 ^ xs.length * 4294967296 := Nat.mul_le_mul_left _ (by omega)
    have h7 : 4294967296 ^ by_ * (num xs * d) < 4294967296 ^ by_ * (4294967296 ^ xs.length * 4294967296) := Nat.mul_lt_mul_of_pos_left h6 (Nat.pow_pos (by omega))
    have h8 : 4294967296 ^ (by_ + (xs.length + 1)) = 4294967296 ^ by_ * (4294967296 ^ xs.length * 4294967296) := by rw [Nat.pow_add, Nat.pow_succ]
    generalize 4294967296 ^ (by_ + (xs.length + 1)) * c = X at *
    generalize 4294967296 ^ (by_ + (xs.length + 1)) = Y at *
    generalize 4294967296 ^ by_ * (num xs * d) = Z at *
    generalize 4294967296 ^ by_ * (4294967296 ^ xs.length * 4294967296) = W at *
    omega
/-- the digits to be handled are few: the number fits -/
theorem scaled_fits {x d c : Nat} (hx : x < 4294967296) (hd : d < 4294967296) (hc : c < 4294967296) : x * d + c < 18446744073709551616 ∧ (x * d + c) / 4294967296 < 4294967296 := by
  have h1 : x * d ≤ 4294967295 * 4294967295 := Nat.mul_le_mul (by omega) (by omega)
  omega
end Go.Proofs.Ytakfabaocgbbmaa.Dig
