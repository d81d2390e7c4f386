/- Long division on lists of digits. No Go in sight. -/
import Derived.Test.YtmnankcllblgjaaN2M
namespace Go.Proofs.Ytmnankcllblgjaa.Dig
set_option linter.unusedVariables false

/-- the guess of the next digit, off the digits -/
def estD (W D : List Nat) : Nat := estQ (W.getD D.length 0) (W.getD (D.length - 1) 0) (W.getD (D.length - 2) 0) (D.getD (D.length - 1) 0) (D.getD (D.length - 2) 0)
theorem estD_lt {W D : List Nat} (hW : IsDig W) (hD : 2 ≤ D.length) (ht : 2147483648 ≤ D.getD (D.length - 1) 0) : estD W D < 4294967296 := estQ_lt _ _ _ _ _ (getD_lt hW _) (by omega)
theorem num_top2 {D : List Nat} {m : Nat} (h : D.length = m + 2) : num D = (D.getD (m + 1) 0 * 4294967296 + D.getD m 0) * 4294967296 ^ m + num (D.take m) := by
  have h1 := num_take_succ D (m + 1)
  rw [List.take_of_length_le (by omega : D.length ≤ m + 1 + 1), num_take_succ D m, Nat.pow_succ] at h1
  rw [h1]; grind
theorem num_top3 {W : List Nat} {m : Nat} (h : W.length = m + 3) : num W = ((W.getD (m + 2) 0 * 4294967296 + W.getD (m + 1) 0) * 4294967296 + W.getD m 0) * 4294967296 ^ m + num (W.take m) := by
  have h1 := num_take_succ W (m + 2)
  rw [List.take_of_length_le (by omega : W.length ≤ m + 2 + 1), num_take_succ W (m + 1), num_take_succ W m, Nat.pow_succ, Nat.pow_succ] at h1
  rw [h1]; grind
theorem estD_ok {W D : List Nat} {m : Nat} (hW : IsDig W) (hD : IsDig D) (lD : D.length = m + 2) (lW : W.length = m + 3) (ht : 2147483648 ≤ D.getD (D.length - 1) 0) (hlt : num W < num D * 4294967296) :
    num W / num D ≤ estD W D ∧ estD W D ≤ num W / num D + 1 := by
  unfold estD
  rw [lD] at ht ⊢
  rw [show m + 2 - 1 = m + 1 by omega, show m + 2 - 2 = m by omega]
  exact estQ_ok (P := 4294967296 ^ m) (num_top2 lD) (num_take_lt hD (by omega)) (num_top3 lW) (num_take_lt hW (by omega)) (getD_lt hD _) (getD_lt hW _) (getD_lt hW _) (by rw [show m + 2 - 1 = m + 1 by omega] at ht; omega) hlt

/-- the guess is right: nothing was borrowed -/
theorem step_fine {W D O : List Nat} {n b d : Nat} (lO : O.length = n + 1) (dO : IsDig O) (hd : d = num W / num D) (h : num O + num D * d = num W + 4294967296 ^ (n + 1) * b) (hb : b ≤ 1) :
    b = 0 ∧ num O = num W % num D := by
  have h1 := num_lt dO
  rw [lO] at h1
  have h2 := Nat.div_add_mod (num W) (num D)
  rw [← hd] at h2
  rcases (show b = 0 ∨ b = 1 by omega) with rfl | rfl
  · rw [Nat.mul_zero] at h
    exact ⟨rfl, by omega⟩
  · exfalso
    rw [Nat.mul_one] at h
    omega
/-- the guess is one too great: it was borrowed, and is put right by adding back -/
theorem step_back {W D O : List Nat} {n b d : Nat} (hp : 0 < num D) (dD : num D < 4294967296 ^ (n + 1)) (hd : d = num W / num D + 1) (h : num O + num D * d = num W + 4294967296 ^ (n + 1) * b) (hb : b ≤ 1) :
    b = 1 ∧ num W % num D + 4294967296 ^ (n + 1) = num O + num D := by
  have h2 := Nat.div_add_mod (num W) (num D)
  have h3 := Nat.mod_lt (num W) hp
  have e : num D * d = num D * (num W / num D) + num D := by rw [hd, Nat.mul_add, Nat.mul_one]
  rcases (show b = 0 ∨ b = 1 by omega) with rfl | rfl
  · exfalso; rw [Nat.mul_zero] at h; omega
  · rw [Nat.mul_one] at h
    exact ⟨rfl, by omega⟩
theorem back_num {O2 : List Nat} {n c r x V : Nat} (l2 : O2.length = n + 1) (d2 : IsDig O2) (hr : r < 4294967296 ^ (n + 1)) (h1 : r + 4294967296 ^ (n + 1) = x) (h2 : num O2 + 4294967296 ^ (n + 1) * c = x) (hc : c ≤ 1) : num O2 = r := by
  have h3 := num_lt d2
  rw [l2] at h3
  rcases (show c = 0 ∨ c = 1 by omega) with rfl | rfl
  · rw [Nat.mul_zero] at h2; omega
  · rw [Nat.mul_one] at h2; omega

/-- the state of the long division: A is to be divided by V, of n digits; k digits of the quotient are left -/
def LongInv (A V n L m k : Nat) (R qs : List Nat) : Prop :=
  IsDig R ∧ R.length = L + 1 ∧ IsDig qs ∧ qs.length + k = m ∧ num R + V * (4294967296 ^ k * num qs) = A ∧ num (R.drop k) < V
theorem high_zero {R : List Nat} {k n V : Nat} (hlt : num (R.drop k) < V) (hV : V ≤ 4294967296 ^ n) (hl : k + n ≤ R.length) : num (R.drop (k + n)) = 0 := by
  have h := num_split (R.drop k) (j := n) (by simp; omega)
  rw [List.drop_drop] at h
  rcases Nat.eq_zero_or_pos (num (R.drop (k + n))) with h0 | h0
  · exact h0
  · have : 4294967296 ^ n * 1 ≤ 4294967296 ^ n * num (R.drop (k + n)) := Nat.mul_le_mul_left _ h0
    omega
theorem window_num {R : List Nat} {j n V : Nat} (hlt : num (R.drop (j + 1)) < V) (hV : V ≤ 4294967296 ^ n) (hl : j + 1 + n ≤ R.length) :
    num ((R.drop j).take (n + 1)) = num (R.drop j) ∧ num (R.drop (j + (n + 1))) = 0 := by
  have h0 := high_zero hlt hV hl
  have h := num_split (R.drop j) (j := n + 1) (by simp; omega)
  rw [List.drop_drop, show j + (n + 1) = j + 1 + n by omega, h0, Nat.mul_zero] at h
  exact ⟨by omega, by rw [show j + (n + 1) = j + 1 + n by omega]; exact h0⟩
theorem window_lt {R : List Nat} {j n V : Nat} (hR : IsDig R) (hlt : num (R.drop (j + 1)) < V) (hV : V ≤ 4294967296 ^ n) (hl : j + 1 + n ≤ R.length) :
    num ((R.drop j).take (n + 1)) < V * 4294967296 := by
  rw [(window_num hlt hV hl).1, num_drop]
  have h1 := getD_lt hR j
  have : (num (R.drop (j + 1)) + 1) * 4294967296 ≤ V * 4294967296 := Nat.mul_le_mul_right _ hlt
  omega
theorem num_splice {ds outs : List Nat} {o : Nat} (h : o + outs.length ≤ ds.length) : num (splice ds o outs) = num (ds.take o) + 4294967296 ^ o * (num outs + 4294967296 ^ outs.length * num (ds.drop (o + outs.length))) := by
  unfold splice
  rw [List.append_assoc, num_append, num_append, List.length_take, Nat.min_eq_left (by omega)]
theorem drop_splice {ds outs : List Nat} {o : Nat} (h : o + outs.length ≤ ds.length) : (splice ds o outs).drop o = outs ++ ds.drop (o + outs.length) := by
  unfold splice
  rw [List.append_assoc, List.drop_append_of_le_length (by simp; omega)]
  simp
theorem long_step {A V n L m j q : Nat} {R qs O : List Nat} (h : LongInv A V n L m (j + 1) R qs) (hV : V ≤ 4294967296 ^ n) (hl : j + 1 + n ≤ L + 1) (lO : O.length = n + 1) (dO : IsDig O)
    (hO : num O = num ((R.drop j).take (n + 1)) % V) (hq : q = num ((R.drop j).take (n + 1)) / V) (hqB : q < 4294967296) (hVp : 0 < V) : LongInv A V n L m j (splice R j O) (q :: qs) := by
  obtain ⟨h1, h2, h3, h4, h5, h6⟩ := h
  obtain ⟨e1, e2⟩ := window_num h6 hV (by omega)
  have hs := splice_len (ds := R) (o := j) (outs := O) (by omega)
  have ed := drop_splice (ds := R) (o := j) (outs := O) (by omega)
  have en := num_splice (ds := R) (o := j) (outs := O) (by omega)
  rw [lO, e2, Nat.mul_zero, Nat.add_zero] at en
  rw [lO] at ed
  refine ⟨isDig_splice h1 dO, by omega, isDig_cons hqB h3, by simp; omega, ?_, ?_⟩
  · have hR := num_split R (j := j) (by omega)
    rw [← e1] at hR
    have hdm := Nat.div_add_mod (num ((R.drop j).take (n + 1))) V
    rw [← hq, ← hO] at hdm
    rw [en, num]
    rw [← hdm] at hR
    rw [← h5, hR, Nat.pow_succ]
    grind
  · rw [ed, num_append, e2, hO]
    simpa using Nat.mod_lt _ hVp
theorem long_end {A V n L m : Nat} {R qs : List Nat} (h : LongInv A V n L m 0 R qs) : num qs = A / V ∧ num R = A % V ∧ IsDig qs ∧ qs.length = m := by
  obtain ⟨h1, h2, h3, h4, h5, h6⟩ := h
  simp only [Nat.pow_zero, Nat.one_mul, List.drop_zero] at h5 h6
  have hV : 0 < V := by omega
  refine ⟨?_, ?_, h3, by omega⟩
  · rw [← h5, Nat.add_mul_div_left _ _ hV, Nat.div_eq_of_lt h6, Nat.zero_add]
  · rw [← h5, Nat.add_mul_mod_self_left, Nat.mod_eq_of_lt h6]
theorem long_start {A V n L m : Nat} {R : List Nat} (hR : IsDig R) (hl : R.length = L + 1) (hm : m ≤ L + 1) (hA : num R = A) (hlt : A < V * 4294967296 ^ m) : LongInv A V n L m m R [] := by
  refine ⟨hR, hl, isDig_nil, by simp, by simp [num, hA], ?_⟩
  have h := num_split R (j := m) (by omega)
  rw [hA] at h
  rcases Nat.lt_or_ge (num (R.drop m)) V with h1 | h1
  · exact h1
  · have : V * 4294967296 ^ m ≤ num (R.drop m) * 4294967296 ^ m := Nat.mul_le_mul_right _ h1
    rw [Nat.mul_comm (num (R.drop m))] at this
    omega

/-- the quotient's number of digits -/
def qlen (xs ys : List Nat) : Nat := if 0 ≤ cmpL (xs.drop (xs.length - ys.length)) ys then xs.length - ys.length + 1 else xs.length - ys.length
theorem norm_drop {xs : List Nat} (h : Norm xs) {k : Nat} (hk : k < xs.length) : Norm (xs.drop k) := by
  rcases h with h | h
  · omega
  · right
    have : (xs.drop k).getD ((xs.drop k).length - 1) 0 = xs.getD (xs.length - 1) 0 := by
      simp only [List.getD, List.getElem?_drop, List.length_drop]
      congr 2; omega
    rw [this]; exact h
theorem qlen_ok {xs ys : List Nat} (hx : IsDig xs) (hy : IsDig ys) (nx : Norm xs) (ny : Norm ys) (h0 : ys.length ≠ 0) (hle : num ys ≤ num xs) :
    1 ≤ qlen xs ys ∧ qlen xs ys ≤ xs.length ∧ num xs < num ys * 4294967296 ^ qlen xs ys ∧ 4294967296 ^ (qlen xs ys - 1) * num ys ≤ num xs ∧ (qlen xs ys = xs.length - ys.length ∨ qlen xs ys = xs.length - ys.length + 1) := by
  have hl := norm_len_le hx ny hle
  obtain ⟨e, he⟩ : ∃ e, e = xs.length - ys.length := ⟨_, rfl⟩
  have hs := num_split xs (j := e) (by omega)
  have ht := num_take_lt hx (j := e) (by omega)
  have hD := isDig_drop hx e
  have hN := norm_drop nx (k := e) (by omega)
  have hc := cmpL_norm hD hy hN ny
  have hlen : (xs.drop e).length = ys.length := by simp; omega
  have hxlt := num_lt hD
  rw [hlen] at hxlt
  have hyge := norm_ge ny h0
  have hpe := powB e
  unfold qlen
  rw [← he, hc]
  by_cases h1 : num (xs.drop e) < num ys
  · rw [if_pos h1, if_neg (by decide)]
    have he0 : e ≠ 0 := by
      rintro rfl
      rw [List.drop_zero] at h1
      omega
    have hmul : 4294967296 ^ e * (num (xs.drop e) + 1) ≤ 4294967296 ^ e * num ys := Nat.mul_le_mul_left _ h1
    rw [Nat.mul_add, Nat.mul_one] at hmul
    refine ⟨by omega, by omega, by rw [Nat.mul_comm]; omega, ?_, .inl rfl⟩
    have hxge := norm_ge nx (by omega)
    have hylt := num_lt hy
    have : 4294967296 ^ (e - 1) * num ys ≤ 4294967296 ^ (e - 1) * 4294967296 ^ ys.length := Nat.mul_le_mul_left _ (by omega)
    rw [← Nat.pow_add, show e - 1 + ys.length = xs.length - 1 by omega] at this
    omega
  · rw [if_neg h1]
    have hge : (0 : Int) ≤ (if num ys < num (xs.drop e) then (1 : Int) else 0) := by split <;> decide
    rw [if_pos hge]
    refine ⟨by omega, by omega, ?_, ?_, .inr rfl⟩
    · have hxlt2 := num_lt hx
      have e3 : 4294967296 ^ (ys.length - 1) * 4294967296 ^ (e + 1) ≤ num ys * 4294967296 ^ (e + 1) := Nat.mul_le_mul_right _ hyge
      rw [← Nat.pow_add, show ys.length - 1 + (e + 1) = xs.length by omega] at e3
      omega
    · rw [Nat.add_sub_cancel]
      have : 4294967296 ^ e * num ys ≤ 4294967296 ^ e * num (xs.drop e) := Nat.mul_le_mul_left _ (by omega)
      omega
theorem quot_norm {xs ys qs : List Nat} {m : Nat} (hp : 0 < num ys) (hq : num qs = num xs / num ys) (dq : IsDig qs) (lq : qs.length = m) (h : 4294967296 ^ (m - 1) * num ys ≤ num xs) : digs (num xs / num ys) = qs := by
  rw [← hq]
  refine digs_of_ge dq ?_
  rw [hq, lq, Nat.le_div_iff_mul_le hp]
  exact h

/-- shifted up: a step -/
theorem shiftUp_step {xs outs : List Nat} {k c s : Nat} (hs : s ≤ 31) (hx : xs.getD k 0 < 4294967296) (hl : outs.length = k) (hc : c < 2 ^ s) (h : num outs + 4294967296 ^ k * c = num (xs.take k) * 2 ^ s) :
    num (outs ++ [c + xs.getD k 0 * 2 ^ s % 4294967296]) + 4294967296 ^ (k + 1) * (xs.getD k 0 / 2 ^ (32 - s)) = num (xs.take (k + 1)) * 2 ^ s ∧ xs.getD k 0 / 2 ^ (32 - s) < 2 ^ s ∧ c + xs.getD k 0 * 2 ^ s % 4294967296 < 4294967296 ∧ (xs.getD k 0 * 2 ^ s % 4294967296) = 2 ^ s * (xs.getD k 0 % 2 ^ (32 - s)) := by
  have hB : (4294967296 : Nat) = 2 ^ (32 - s) * 2 ^ s := by rw [← Nat.pow_add, show 32 - s + s = 32 by omega]
  have hp := Nat.pow_pos (n := s) (show 0 < 2 by omega)
  have hp2 := Nat.pow_pos (n := 32 - s) (show 0 < 2 by omega)
  rw [num_snoc, hl, num_take_succ]
  generalize xs.getD k 0 = x at *
  have e1 : x * 2 ^ s % 4294967296 = 2 ^ s * (x % 2 ^ (32 - s)) := by
    rw [hB, Nat.mul_mod_mul_right, Nat.mul_comm]
  have e2 : x / 2 ^ (32 - s) < 2 ^ s := by
    rw [Nat.div_lt_iff_lt_mul hp2, Nat.mul_comm, ← hB]; exact hx
  have e3 : c + x * 2 ^ s % 4294967296 < 4294967296 := by
    rw [e1]
    have hm := Nat.mod_lt x hp2
    have : 2 ^ s * (x % 2 ^ (32 - s) + 1) ≤ 2 ^ s * 2 ^ (32 - s) := Nat.mul_le_mul_left _ hm
    rw [Nat.mul_comm (2 ^ s) (2 ^ (32 - s)), ← hB, Nat.mul_add] at this
    omega
  refine ⟨?_, e2, e3, e1⟩
  have hdm := Nat.div_add_mod x (2 ^ (32 - s))
  have e4 : x * 2 ^ s = 4294967296 * (x / 2 ^ (32 - s)) + x * 2 ^ s % 4294967296 := by
    rw [e1]
    conv => lhs; rw [← hdm]
    rw [hB]; grind
  have e5 : 4294967296 ^ k * (x * 2 ^ s) = 4294967296 ^ (k + 1) * (x / 2 ^ (32 - s)) + 4294967296 ^ k * (x * 2 ^ s % 4294967296) := by
    conv => lhs; rw [e4]
    rw [Nat.mul_add, Nat.pow_succ, Nat.mul_assoc]
  have e6 : (num (xs.take k) + 4294967296 ^ k * x) * 2 ^ s = num (xs.take k) * 2 ^ s + 4294967296 ^ k * (x * 2 ^ s) := by grind
  rw [e6, e5, Nat.mul_add]
  omega
/-- shifted down: a step -/
theorem shiftDown_step {ds outs : List Nat} {k s : Nat} (hd : IsDig ds) (hs : s ≤ 31) (hk : k < ds.length) (hl : outs.length = k) (h : num outs = num ds / 2 ^ s % 4294967296 ^ k) :
    num (outs ++ [ds.getD k 0 / 2 ^ s + ds.getD (k + 1) 0 * 2 ^ (32 - s) % 4294967296]) = num ds / 2 ^ s % 4294967296 ^ (k + 1) ∧
    ds.getD k 0 / 2 ^ s < 2 ^ (32 - s) ∧ ds.getD k 0 / 2 ^ s + ds.getD (k + 1) 0 * 2 ^ (32 - s) % 4294967296 < 4294967296 ∧ (ds.getD (k + 1) 0 * 2 ^ (32 - s) % 4294967296) = 2 ^ (32 - s) * (ds.getD (k + 1) 0 % 2 ^ s) := by
  have hB : (4294967296 : Nat) = 2 ^ s * 2 ^ (32 - s) := by rw [← Nat.pow_add, show s + (32 - s) = 32 by omega]
  have hp := Nat.pow_pos (n := s) (show 0 < 2 by omega)
  have hp2 := Nat.pow_pos (n := 32 - s) (show 0 < 2 by omega)
  have hx := getD_lt hd k
  have e1 : ds.getD (k + 1) 0 * 2 ^ (32 - s) % 4294967296 = 2 ^ (32 - s) * (ds.getD (k + 1) 0 % 2 ^ s) := by
    rw [hB, Nat.mul_mod_mul_right, Nat.mul_comm]
  have e2 : ds.getD k 0 / 2 ^ s < 2 ^ (32 - s) := by
    rw [Nat.div_lt_iff_lt_mul hp, Nat.mul_comm, ← hB]; exact hx
  have e3 : ds.getD k 0 / 2 ^ s + ds.getD (k + 1) 0 * 2 ^ (32 - s) % 4294967296 < 4294967296 := by
    rw [e1]
    have hm := Nat.mod_lt (ds.getD (k + 1) 0) hp
    have : 2 ^ (32 - s) * (ds.getD (k + 1) 0 % 2 ^ s + 1) ≤ 2 ^ (32 - s) * 2 ^ s := Nat.mul_le_mul_left _ hm
    rw [Nat.mul_comm (2 ^ (32 - s)) (2 ^ s), ← hB, Nat.mul_add] at this
    omega
  refine ⟨?_, e2, e3, e1⟩
  rw [num_snoc, hl, h]
  -- the digit at place k of the number, shifted
  have hsp := num_split ds (j := k) (by omega)
  have ht := num_take_lt hd (j := k) (by omega)
  have n1 := num_drop ds k
  have n2 := num_drop ds (k + 1)
  have e4 : num ds / 2 ^ s / 4294967296 ^ k = num (ds.drop k) / 2 ^ s := by
    rw [Nat.div_div_eq_div_mul, Nat.mul_comm, ← Nat.div_div_eq_div_mul, hsp, Nat.add_mul_div_left _ _ (powB k), Nat.div_eq_of_lt ht, Nat.zero_add]
  have e5 : num (ds.drop k) / 2 ^ s % 4294967296 = ds.getD k 0 / 2 ^ s + ds.getD (k + 1) 0 * 2 ^ (32 - s) % 4294967296 := by
    rw [n1, n2]
    generalize ds.getD k 0 = x at *
    generalize ds.getD (k + 1) 0 = y at *
    generalize num (ds.drop (k + 1 + 1)) = z at *
    have a : x + 4294967296 * (y + 4294967296 * z) = x + 2 ^ s * (2 ^ (32 - s) * (y + 4294967296 * z)) := by
      rw [← Nat.mul_assoc, ← hB]
    rw [a, Nat.add_mul_div_left _ _ hp]
    have b : x / 2 ^ s + 2 ^ (32 - s) * (y + 4294967296 * z) = (x / 2 ^ s + y * 2 ^ (32 - s) % 4294967296) + 4294967296 * (y * 2 ^ (32 - s) / 4294967296 + 2 ^ (32 - s) * z) := by
      have := Nat.div_add_mod (y * 2 ^ (32 - s)) 4294967296
      grind
    rw [b, Nat.add_mul_mod_self_left, Nat.mod_eq_of_lt e3]
  rw [← e5, ← e4, Nat.pow_succ, Nat.mod_mul]
theorem shiftDown_end {ds outs : List Nat} {s : Nat} (hd : IsDig ds) (h : num outs = num ds / 2 ^ s % 4294967296 ^ ds.length) : num outs = num ds / 2 ^ s := by
  rw [h]
  exact Nat.mod_eq_of_lt (Nat.lt_of_le_of_lt (Nat.div_le_self _ _) (num_lt hd))
/-- a step of the division by a digit -/
theorem byDigit_step {xs os : List Nat} {j L d : Nat} (hL : L < d) (hx : xs.getD j 0 < 4294967296) (h : num (xs.drop (j + 1)) = d * num os + L) :
    num (xs.drop j) = d * num ((L * 4294967296 + xs.getD j 0) / d :: os) + (L * 4294967296 + xs.getD j 0) % d ∧ (L * 4294967296 + xs.getD j 0) / d < 4294967296 ∧ (L * 4294967296 + xs.getD j 0) % d < d := by
  have hd : 0 < d := by omega
  rw [num_drop, h, num]
  generalize num os = n at *
  generalize xs.getD j 0 = x at *
  have hdm := Nat.div_add_mod (L * 4294967296 + x) d
  refine ⟨?_, ?_, Nat.mod_lt _ hd⟩
  · generalize (L * 4294967296 + x) / d = q at *
    generalize (L * 4294967296 + x) % d = r at *
    grind
  · rw [Nat.div_lt_iff_lt_mul hd]
    have : (L + 1) * 4294967296 ≤ d * 4294967296 := Nat.mul_le_mul_right _ hL
    omega
end Go.Proofs.Ytmnankcllblgjaa.Dig
