/- Facts on lists of digits that are written in their place. No Go in sight. -/
import Derived.Test.YtmnankcllblgjaaN2K
import Derived.Test.YtmnankcllblgjaaDec2
namespace Go.Proofs.Ytmnankcllblgjaa.Dig

/-- a list in which some places are written anew -/
def splice (ds : List Nat) (o : Nat) (outs : List Nat) : List Nat := ds.take o ++ outs ++ ds.drop (o + outs.length)
theorem splice_nil (ds : List Nat) (o : Nat) : splice ds o [] = ds := by simp [splice]
theorem splice_len {ds : List Nat} {o : Nat} {outs : List Nat} (h : o + outs.length ≤ ds.length) : (splice ds o outs).length = ds.length := by
  simp [splice]; omega
theorem splice_set {ds : List Nat} {o d : Nat} {outs : List Nat} (h : o + outs.length < ds.length) : (splice ds o outs).set (o + outs.length) d = splice ds o (outs ++ [d]) := by
  unfold splice
  rw [List.set_append_right _ _ (by simp; omega)]
  rw [show ds.drop (o + outs.length) = ds[o + outs.length] :: ds.drop (o + outs.length + 1) from List.drop_eq_getElem_cons h]
  have : o + outs.length - (ds.take o ++ outs).length = 0 := by simp; omega
  rw [this]
  simp [Nat.add_assoc]
theorem splice_set_down {ds : List Nat} {j d : Nat} {outs : List Nat} (h : j < ds.length) : (splice ds (j + 1) outs).set j d = splice ds j (d :: outs) := by
  unfold splice
  rw [List.append_assoc, List.set_append_left _ _ (by simp; omega), List.take_succ_eq_append_getElem h]
  rw [List.set_append_right _ _ (by simp; omega)]
  have : j - (ds.take j).length = 0 := by simp; omega
  rw [this]
  simp [Nat.add_assoc, Nat.add_comm 1]
theorem splice_getD_ge {ds : List Nat} {o i : Nat} {outs : List Nat} (h : o + outs.length ≤ i) (ho : o ≤ ds.length) : (splice ds o outs).getD i 0 = ds.getD i 0 := by
  unfold splice
  simp only [List.getD]
  rw [List.getElem?_append_right (by simp; omega), List.getElem?_drop]
  congr 2
  simp; omega
theorem splice_getD_lt {ds : List Nat} {o i : Nat} {outs : List Nat} (h : i < o) (ho : o ≤ ds.length) : (splice ds o outs).getD i 0 = ds.getD i 0 := by
  unfold splice
  simp only [List.getD]
  rw [List.append_assoc, List.getElem?_append_left (by simp; omega), List.getElem?_take, if_pos h]
theorem splice_getD_mid {ds : List Nat} {o i : Nat} {outs : List Nat} (h : i < outs.length) (ho : o ≤ ds.length) : (splice ds o outs).getD (o + i) 0 = outs.getD i 0 := by
  unfold splice
  simp only [List.getD]
  rw [List.append_assoc, List.getElem?_append_right (by simp; omega), List.getElem?_append_left (by simp; omega)]
  congr 2
  simp; omega
theorem isDig_splice {ds : List Nat} {o : Nat} {outs : List Nat} (h : IsDig ds) (k : IsDig outs) : IsDig (splice ds o outs) :=
  isDig_append (isDig_append (isDig_take h _) k) (fun d hd => h d (List.mem_of_mem_drop hd))
theorem isDig_drop {ds : List Nat} (h : IsDig ds) (k : Nat) : IsDig (ds.drop k) := fun d hd => h d (List.mem_of_mem_drop hd)
theorem isDig_cons {d : Nat} {ds : List Nat} (hd : d < 4294967296) (h : IsDig ds) : IsDig (d :: ds) := fun x hx => by
  rcases List.mem_cons.mp hx with rfl | hx
  · exact hd
  · exact h x hx
theorem isDig_set {ds : List Nat} {i d : Nat} (h : IsDig ds) (hd : d < 4294967296) : IsDig (ds.set i d) := fun x hx => by
  rcases List.mem_or_eq_of_mem_set hx with hx | rfl
  · exact h x hx
  · exact hd
theorem getD_set_self {ds : List Nat} {i d : Nat} (h : i < ds.length) : (ds.set i d).getD i 0 = d := by simp [List.getD, h]
theorem getD_set_other {ds : List Nat} {i j d : Nat} (h : i ≠ j) : (ds.set i d).getD j 0 = ds.getD j 0 := by simp [List.getD, List.getElem?_set_ne h]
theorem drop_take_getD {ds : List Nat} {o n i : Nat} (h : i < n) : ((ds.drop o).take n).getD i 0 = ds.getD (o + i) 0 := by
  simp only [List.getD]
  rw [List.getElem?_take, if_pos h, List.getElem?_drop]
theorem getD_ge {ds : List Nat} {i : Nat} (h : ds.length ≤ i) : ds.getD i 0 = 0 := by simp [List.getD, h]

theorem num_drop (ds : List Nat) (j : Nat) : num (ds.drop j) = ds.getD j 0 + 4294967296 * num (ds.drop (j + 1)) := by
  by_cases h : j < ds.length
  · rw [drop_one h, num]
  · rw [List.drop_of_length_le (by omega), List.drop_of_length_le (by omega), getD_ge (by omega)]; rfl
theorem num_split (ds : List Nat) {j : Nat} (h : j ≤ ds.length) : num ds = num (ds.take j) + 4294967296 ^ j * num (ds.drop j) := by
  have := num_append (ds.take j) (ds.drop j)
  rw [List.take_append_drop, List.length_take, Nat.min_eq_left h] at this
  exact this
theorem powB (k : Nat) : 0 < 4294967296 ^ k := Nat.pow_pos (by omega)

/-- how many digits are left without noughts at the end -/
def sig (ds : List Nat) : Nat := (digs (num ds)).length
theorem sig_le {ds : List Nat} (h : IsDig ds) : sig ds ≤ ds.length := digs_len_num h
theorem sig_of {ds : List Nat} (hd : IsDig ds) {k : Nat} (hk : k ≤ ds.length) (h : ∀ i, k ≤ i → i < ds.length → ds.getD i 0 = 0) (hn : k = 0 ∨ ds.getD (k - 1) 0 ≠ 0) : sig ds = k ∧ digs (num ds) = ds.take k := by
  have e := digs_trim hd hk h hn
  refine ⟨?_, e⟩
  unfold sig; rw [e]; simp; omega
theorem take_sig {ds : List Nat} (hd : IsDig ds) : digs (num ds) = ds.take (sig ds) := by
  -- the greatest place that is not nought
  have : ∀ k, k ≤ ds.length → (∀ i, k ≤ i → i < ds.length → ds.getD i 0 = 0) → digs (num ds) = ds.take (sig ds) := by
    intro k
    induction k with
    | zero => intro hk hz; obtain ⟨h1, h2⟩ := sig_of hd hk hz (.inl rfl); rw [h1]; exact h2
    | succ k ih =>
      intro hk hz
      by_cases h0 : ds.getD k 0 = 0
      · refine ih (by omega) (fun i h1 h2 => ?_)
        by_cases e : i = k
        · subst e; exact h0
        · exact hz i (by omega) h2
      · obtain ⟨h1, h2⟩ := sig_of hd hk hz (.inr (by simpa using h0)); rw [h1]; exact h2
  exact this ds.length (Nat.le_refl _) (fun i h1 h2 => by omega)
theorem right_sig {ds : List Nat} (hd : IsDig ds) : rightB ds = (decide (ds.length ≤ 256) && decide (sig ds = ds.length)) := by
  unfold rightB
  congr 1
  rw [Bool.eq_iff_iff]
  simp only [Bool.or_eq_true, decide_eq_true_eq]
  constructor
  · rintro h
    have : Norm ds := h
    unfold sig; rw [digs_num hd this]
  · intro h
    have e := take_sig hd
    rw [h, List.take_length] at e
    have := norm_digs (num ds)
    rw [e] at this
    exact this

/-- how two lists of digits follow each other -/
def cmpL (xs ys : List Nat) : Int := if xs.length < ys.length then -1 else if ys.length < xs.length then 1 else if num xs < num ys then -1 else if num ys < num xs then 1 else 0
theorem cmpL_norm {xs ys : List Nat} (hx : IsDig xs) (hy : IsDig ys) (nx : Norm xs) (ny : Norm ys) : cmpL xs ys = if num xs < num ys then -1 else if num ys < num xs then 1 else 0 := by
  unfold cmpL
  split
  · rename_i h; rw [if_pos (len_less hx ny h)]
  · split
    · rename_i h; have := len_less hy nx h; rw [if_neg (by omega), if_pos this]
    · rfl
theorem cmpD_cmpL {xs ys : List Nat} (hx : IsDig xs) (hy : IsDig ys) : cmpD xs ys = if rightB xs = true ∧ rightB ys = true then (cmpL xs ys, 0) else (0, 2) := by
  unfold cmpD
  split
  · rename_i h
    rw [cmpL_norm hx hy (right_norm h.1).2 (right_norm h.2).2]
    split
    · rfl
    · split <;> rfl
  · rfl
theorem cmpL_lt {xs ys : List Nat} (hx : IsDig xs) (hy : IsDig ys) (nx : Norm xs) (ny : Norm ys) : cmpL xs ys < 0 ↔ num xs < num ys := by
  rw [cmpL_norm hx hy nx ny]
  split
  · simp; assumption
  · split <;> simp <;> omega

/-- the digits of a sum: as many as the longer number has, or one more -/
theorem digs_len_of {n k : Nat} (h1 : 4294967296 ^ k ≤ n) (h2 : n < 4294967296 ^ (k + 1)) : (digs n).length = k + 1 := by
  have := digs_len_le h2
  have := digs_len_gt h1
  omega
theorem norm_ge {ds : List Nat} (hn : Norm ds) (hl : ds.length ≠ 0) : 4294967296 ^ (ds.length - 1) ≤ num ds := by
  rcases hn with h | h
  · exact absurd h hl
  · rw [num_split ds (j := ds.length - 1) (by omega), num_drop]
    have : 4294967296 ^ (ds.length - 1) * 1 ≤ 4294967296 ^ (ds.length - 1) * (ds.getD (ds.length - 1) 0 + 4294967296 * num (ds.drop (ds.length - 1 + 1))) := Nat.mul_le_mul_left _ (by omega)
    omega
theorem norm_of_ge {ds : List Nat} (hd : IsDig ds) (h : 4294967296 ^ (ds.length - 1) ≤ num ds) : Norm ds := by
  by_cases h0 : ds.length = 0
  · exact .inl h0
  · right
    intro hz
    rw [num_split ds (j := ds.length - 1) (by omega), num_drop, hz, List.drop_of_length_le (by omega), num] at h
    have := num_take_lt hd (j := ds.length - 1) (by omega)
    simp at h
    omega
theorem digs_of_ge {ds : List Nat} (hd : IsDig ds) (h : 4294967296 ^ (ds.length - 1) ≤ num ds) : digs (num ds) = ds := digs_num hd (norm_of_ge hd h)

/-- the sum's length, place by place from above -/
theorem sumlen_step {xs ys : List Nat} {m j : Nat} (hj : j < m) (h : num (xs.drop (j + 1)) + num (ys.drop (j + 1)) + 1 = 4294967296 ^ (m - (j + 1))) (ht : xs.getD j 0 + ys.getD j 0 = 4294967295) :
    num (xs.drop j) + num (ys.drop j) + 1 = 4294967296 ^ (m - j) := by
  rw [num_drop xs j, num_drop ys j, show m - j = (m - (j + 1)) + 1 by omega, Nat.pow_succ, ← h]
  omega
theorem num_split_any {ds : List Nat} (hd : IsDig ds) (j : Nat) : ∃ t, t < 4294967296 ^ j ∧ num ds = t + 4294967296 ^ j * num (ds.drop j) := by
  by_cases h : j ≤ ds.length
  · exact ⟨_, num_take_lt hd h, num_split ds h⟩
  · refine ⟨num ds, Nat.lt_of_lt_of_le (num_lt hd) (Nat.pow_le_pow_right (by omega) (by omega)), ?_⟩
    rw [List.drop_of_length_le (by omega), num]; simp
theorem sumlen_low {xs ys : List Nat} {m j : Nat} (hx : IsDig xs) (hy : IsDig ys) (hj : j < m) (h : num (xs.drop (j + 1)) + num (ys.drop (j + 1)) + 1 = 4294967296 ^ (m - (j + 1))) (ht : xs.getD j 0 + ys.getD j 0 < 4294967295) :
    num xs + num ys < 4294967296 ^ m := by
  obtain ⟨a, ha, ea⟩ := num_split_any hx j
  obtain ⟨b, hb, eb⟩ := num_split_any hy j
  rw [ea, eb, num_drop xs j, num_drop ys j]
  have e : 4294967296 ^ m = 4294967296 ^ j * (4294967296 ^ (m - (j + 1)) * 4294967296) := by
    rw [← Nat.pow_succ, ← Nat.pow_add]; congr 1; omega
  rw [e, ← h]
  have hle : 4294967296 ^ j * (xs.getD j 0 + 4294967296 * num (xs.drop (j + 1)) + (ys.getD j 0 + 4294967296 * num (ys.drop (j + 1))) + 2) ≤ 4294967296 ^ j * ((num (xs.drop (j + 1)) + num (ys.drop (j + 1)) + 1) * 4294967296) := Nat.mul_le_mul_left _ (by omega)
  rw [Nat.mul_add, Nat.mul_add] at hle
  omega
theorem sumlen_high {xs ys : List Nat} {m j : Nat} (hx : IsDig xs) (hy : IsDig ys) (hj : j < m) (h : num (xs.drop (j + 1)) + num (ys.drop (j + 1)) + 1 = 4294967296 ^ (m - (j + 1))) (ht : 4294967296 ≤ xs.getD j 0 + ys.getD j 0) :
    4294967296 ^ m ≤ num xs + num ys := by
  obtain ⟨a, ha, ea⟩ := num_split_any hx j
  obtain ⟨b, hb, eb⟩ := num_split_any hy j
  rw [ea, eb, num_drop xs j, num_drop ys j]
  have e : 4294967296 ^ m = 4294967296 ^ j * (4294967296 ^ (m - (j + 1)) * 4294967296) := by
    rw [← Nat.pow_succ, ← Nat.pow_add]; congr 1; omega
  rw [e, ← h]
  have hle : 4294967296 ^ j * ((num (xs.drop (j + 1)) + num (ys.drop (j + 1)) + 1) * 4294967296) ≤ 4294967296 ^ j * (xs.getD j 0 + 4294967296 * num (xs.drop (j + 1)) + (ys.getD j 0 + 4294967296 * num (ys.drop (j + 1)))) := Nat.mul_le_mul_left _ (by omega)
  rw [Nat.mul_add] at hle
  omega
theorem sumlen_end {xs ys : List Nat} {m : Nat} (h : num (xs.drop 0) + num (ys.drop 0) + 1 = 4294967296 ^ (m - 0)) : num xs + num ys < 4294967296 ^ m := by
  simp only [List.drop_zero, Nat.sub_zero] at h; omega

/-- a step of the product with a digit, added in its place -/
theorem addTimes_step {W D outs : List Nat} {k c d : Nat} (hl : outs.length = k) (h : num outs + 4294967296 ^ k * c = num (W.take k) + num (D.take k) * d) :
    num (outs ++ [(D.getD k 0 * d + W.getD k 0 + c) % 4294967296]) + 4294967296 ^ (k + 1) * ((D.getD k 0 * d + W.getD k 0 + c) / 4294967296) = num (W.take (k + 1)) + num (D.take (k + 1)) * d := by
  rw [num_snoc, hl, num_take_succ, num_take_succ]
  generalize hn : D.getD k 0 * d + W.getD k 0 + c = n
  have e : 4294967296 ^ k * (n % 4294967296) + 4294967296 ^ (k + 1) * (n / 4294967296) = 4294967296 ^ k * n := by
    rw [Nat.pow_succ, Nat.mul_assoc, ← Nat.mul_add, Nat.mod_add_div]
  have e2 : 4294967296 ^ k * n = 4294967296 ^ k * (D.getD k 0 * d) + 4294967296 ^ k * W.getD k 0 + 4294967296 ^ k * c := by
    rw [← hn, Nat.mul_add, Nat.mul_add]
  have e3 : (num (D.take k) + 4294967296 ^ k * D.getD k 0) * d = num (D.take k) * d + 4294967296 ^ k * (D.getD k 0 * d) := by grind
  omega
theorem timesPlus_fit {x y a b : Nat} (hx : x < 4294967296) (hy : y < 4294967296) (ha : a < 4294967296) (hb : b < 4294967296) : x * y + a + b < 18446744073709551616 := by
  have : x * y ≤ 4294967295 * 4294967295 := Nat.mul_le_mul (by omega) (by omega)
  omega
theorem subT_step {W D outs : List Nat} {k c b d : Nat} (hl : outs.length = k) (hw : W.getD k 0 < 4294967296) (hb : b ≤ 1)
    (h : num outs + num (D.take k) * d = num (W.take k) + 4294967296 ^ k * (c + b)) :
    num (outs ++ [(4294967296 + W.getD k 0 - (D.getD k 0 * d + c) % 4294967296 - b) % 4294967296]) + num (D.take (k + 1)) * d =
      num (W.take (k + 1)) + 4294967296 ^ (k + 1) * ((D.getD k 0 * d + c) / 4294967296 + (1 - (4294967296 + W.getD k 0 - (D.getD k 0 * d + c) % 4294967296 - b) / 4294967296)) := by
  rw [num_snoc, hl, num_take_succ, num_take_succ]
  generalize W.getD k 0 = x at *
  generalize D.getD k 0 = y at *
  have hn : (y * d + c) % 4294967296 < 4294967296 := Nat.mod_lt _ (by omega)
  have hdm := Nat.div_add_mod (y * d + c) 4294967296
  generalize (y * d + c) / 4294967296 = hi at *
  generalize (y * d + c) % 4294967296 = lo at *
  generalize hm : 4294967296 + x - lo - b = m
  have e1 : (m % 4294967296) + y * d + c + b = x + 4294967296 * (hi + (1 - m / 4294967296)) := by omega
  have e2 : 4294967296 ^ k * ((m % 4294967296) + y * d + c + b) = 4294967296 ^ k * (x + 4294967296 * (hi + (1 - m / 4294967296))) := by rw [e1]
  have e3 : (num (D.take k) + 4294967296 ^ k * y) * d = num (D.take k) * d + 4294967296 ^ k * (y * d) := by grind
  have e4 : 4294967296 ^ (k + 1) * (hi + (1 - m / 4294967296)) = 4294967296 ^ k * (4294967296 * (hi + (1 - m / 4294967296))) := by rw [Nat.pow_succ, Nat.mul_assoc]
  rw [e3, e4]
  rw [Nat.mul_add _ x, Nat.mul_add _ _ b, Nat.mul_add _ _ c, Nat.mul_add _ _ (y * d)] at e2
  rw [Nat.mul_add _ c b] at h
  omega
theorem subT_end {W D outs : List Nat} {n c b d : Nat} (hl : outs.length = n) (hW : W.length = n + 1) (hD : D.length = n) (hw : W.getD n 0 < 4294967296) (hc : c < 4294967296) (hb : b ≤ 1)
    (h : num outs + num (D.take n) * d = num (W.take n) + 4294967296 ^ n * (c + b)) :
    num (outs ++ [(4294967296 + W.getD n 0 - c - b) % 4294967296]) + num D * d = num W + 4294967296 ^ (n + 1) * (1 - (4294967296 + W.getD n 0 - c - b) / 4294967296) := by
  have hs := num_take_succ W n
  rw [List.take_of_length_le (by omega : W.length ≤ n + 1)] at hs
  rw [List.take_of_length_le (by omega : D.length ≤ n)] at h
  rw [num_snoc, hl, hs]
  generalize W.getD n 0 = x at *
  generalize hm : 4294967296 + x - c - b = m
  have e1 : (m % 4294967296) + c + b = x + 4294967296 * (1 - m / 4294967296) := by omega
  have e2 : 4294967296 ^ n * ((m % 4294967296) + c + b) = 4294967296 ^ n * (x + 4294967296 * (1 - m / 4294967296)) := by rw [e1]
  have e4 : 4294967296 ^ (n + 1) * (1 - m / 4294967296) = 4294967296 ^ n * (4294967296 * (1 - m / 4294967296)) := by rw [Nat.pow_succ, Nat.mul_assoc]
  rw [e4]
  rw [Nat.mul_add _ x, Nat.mul_add _ _ b, Nat.mul_add _ _ c] at e2
  rw [Nat.mul_add _ c b] at h
  omega
/-- the last digit of what is added back wraps round -/
theorem addBack_end {W D outs : List Nat} {n c : Nat} (hl : outs.length = n) (hW : W.length = n + 1) (hD : D.length = n) (h : num outs + 4294967296 ^ n * c = num (W.take n) + num (D.take n)) :
    num (outs ++ [(W.getD n 0 + c) % 4294967296]) + 4294967296 ^ (n + 1) * ((W.getD n 0 + c) / 4294967296) = num W + num D := by
  have hs := num_take_succ W n
  rw [List.take_of_length_le (by omega : W.length ≤ n + 1)] at hs
  rw [List.take_of_length_le (by omega : D.length ≤ n)] at h
  rw [num_snoc, hl, hs]
  generalize W.getD n 0 = x at *
  have e : 4294967296 ^ n * ((x + c) % 4294967296) + 4294967296 ^ (n + 1) * ((x + c) / 4294967296) = 4294967296 ^ n * (x + c) := by
    rw [Nat.pow_succ, Nat.mul_assoc, ← Nat.mul_add, Nat.mod_add_div]
  rw [Nat.mul_add] at e
  omega
end Go.Proofs.Ytmnankcllblgjaa.Dig
