/- Long division by guessed digits: how far a guess can be off. No Go in sight. Facts on lists of digits that are written in their place. No Go in sight. Long division on lists of digits. No Go in sight. What the small calls of the document's own answers for layer 2 give back: a digit, whether digits are right, the same, less. What the document's own Same and Less give back. What the document's own trim gives back: the digits of the number. A block of 32-bit digits that the call itself owns, written in place. What the calls of math/bits that add, take away, multiply and divide give back. What bits.Sub32 and bits.Div32 give back. -/
import Derived.Test.YtbbemgeinlehmaaGreatDoorWd
import Derived.Deep.OwnRows
import Derived.IntWalk
import Derived.Laws.BitsAllLaws
import Derived.Laws.BitsLemmas
namespace Go.Proofs.YtbbemgeinlehmaaGreatDoor.Dig

/-- the guess of a digit of a quotient, by the three highest digits of what is left and the two highest of the divisor -/
def estQ (r2 r1 r0 f s : Nat) : Nat :=
  if f ≤ r2 then 4294967295
  else if (r2 * 4294967296 + r1) % f * 4294967296 + r0 < (r2 * 4294967296 + r1) / f * s then (r2 * 4294967296 + r1) / f - 1 else (r2 * 4294967296 + r1) / f

/-- a guess that is not too small for the two highest digits is at most two too great -/
theorem guess_high {P f g U V q d : Nat} (hU : g * P * 4294967296 ≤ U) (hV : V < (f + 1) * (P * 4294967296)) (hd : d * f ≤ g) (hd2 : d < 4294967296) (hf : 4294967296 ≤ 2 * f) (hq : U < (q + 1) * V) : d ≤ q + 2 := by
  rcases Nat.lt_or_ge (q + 2) d with h | h
  · exfalso
    obtain ⟨e, rfl⟩ : ∃ e, d = q + 3 + e := ⟨d - (q + 3), by omega⟩
    have h1 : (q + 1) * V ≤ (q + 1 + e) * V := Nat.mul_le_mul_right _ (by omega)
    have h2 : (q + 1 + e) * V ≤ (q + 1 + e) * ((f + 1) * (P * 4294967296)) := Nat.mul_le_mul_left _ (Nat.le_of_lt hV)
    have h3 : (q + 1 + e) * (f + 1) ≤ (q + 3 + e) * f := by
      have : (q + 3 + e) * f = (q + 1 + e) * f + 2 * f := by grind
      have : (q + 1 + e) * (f + 1) = (q + 1 + e) * f + (q + 1 + e) := by grind
      omega
    have h4 : (q + 1 + e) * (f + 1) * (P * 4294967296) ≤ g * (P * 4294967296) := Nat.mul_le_mul_right _ (Nat.le_trans h3 hd)
    have h5 : (q + 1 + e) * ((f + 1) * (P * 4294967296)) = (q + 1 + e) * (f + 1) * (P * 4294967296) := by grind
    have h6 : g * P * 4294967296 = g * (P * 4294967296) := by grind
    omega
  · exact h
/-- it is not too small -/
theorem guess_low {P f g U V q : Nat} (hU : U < (g + 1) * (P * 4294967296)) (hV : f * (P * 4294967296) ≤ V) (hq : q * V ≤ U) : q * f ≤ g := by
  have h1 : q * (f * (P * 4294967296)) ≤ q * V := Nat.mul_le_mul_left _ hV
  have h2 : q * f * (P * 4294967296) < (g + 1) * (P * 4294967296) := by
    have : q * (f * (P * 4294967296)) = q * f * (P * 4294967296) := by grind
    omega
  have := Nat.lt_of_mul_lt_mul_right h2
  omega
theorem mulB {d f s g l r : Nat} (hdm : f * d + l = g) (h : l * 4294967296 + r < d * s) : g * 4294967296 + r + 1 ≤ d * (f * 4294967296 + s) := by
  have : d * (f * 4294967296 + s) = f * d * 4294967296 + d * s := by grind
  omega
theorem mulB2 {d f s g l r : Nat} (hdm : f * d + l = g) (h : d * s ≤ l * 4294967296 + r) : d * (f * 4294967296 + s) ≤ g * 4294967296 + r := by
  have : d * (f * 4294967296 + s) = f * d * 4294967296 + d * s := by grind
  omega
theorem last_step {X1 X2 X3 X4 X5 X6 X7 U u' V P : Nat} (h2 : X4 ≤ X5) (h4 : X7 = X4 + X6) (h5 : X3 ≤ X7) (h6 : X3 = X2 + V) (h7 : X6 ≤ 4294967296 * P) (h8 : P * 4294967296 ≤ X1) (hVf : X1 ≤ V) (hq2 : U < X2) (hU : U = X5 + u') : False := by omega
theorem estQ_lt (r2 r1 r0 f s : Nat) (h1 : r1 < 4294967296) (hf : 0 < f) : estQ r2 r1 r0 f s < 4294967296 := by
  unfold estQ
  split
  · omega
  · rename_i h
    have : (r2 * 4294967296 + r1) / f < 4294967296 := by
      rw [Nat.div_lt_iff_lt_mul hf]
      have : (r2 + 1) * 4294967296 ≤ f * 4294967296 := Nat.mul_le_mul_right _ (by omega)
      omega
    split <;> omega
set_option maxRecDepth 100000 in
theorem estQ_ok {P v' u' r2 r1 r0 f s U V : Nat} (hV : V = (f * 4294967296 + s) * P + v') (hv : v' < P) (hU : U = ((r2 * 4294967296 + r1) * 4294967296 + r0) * P + u') (hu : u' < P)
    (hs : s < 4294967296) (h0 : r0 < 4294967296) (h1 : r1 < 4294967296) (hf : 4294967296 ≤ 2 * f) (hlt : U < V * 4294967296) : U / V ≤ estQ r2 r1 r0 f s ∧ estQ r2 r1 r0 f s ≤ U / V + 1 := by
  have hVf : f * (P * 4294967296) ≤ V := by
    have : f * (P * 4294967296) = f * 4294967296 * P := by grind
    have : (f * 4294967296 + s) * P = f * 4294967296 * P + s * P := by grind
    omega
  have hP : 0 < P := by omega
  have hVpos : 0 < V := by
    have : 0 < f * (P * 4294967296) := Nat.mul_pos (by omega) (by omega)
    omega
  have hVf2 : V < (f + 1) * (P * 4294967296) := by
    have a : (f + 1) * (P * 4294967296) = f * 4294967296 * P + 4294967296 * P := by grind
    have b : (f * 4294967296 + s) * P = f * 4294967296 * P + s * P := by grind
    have c : (s + 1) * P ≤ 4294967296 * P := Nat.mul_le_mul_right _ (by omega)
    have d : (s + 1) * P = s * P + P := by grind
    omega
  have hq1 : U / V * V ≤ U := Nat.div_mul_le_self U V
  have hq2 : U < (U / V + 1) * V := by
    have := Nat.lt_div_mul_add hVpos (a := U)
    have e : (U / V + 1) * V = U / V * V + V := by grind
    omega
  have hqB : U / V < 4294967296 := by rw [Nat.div_lt_iff_lt_mul hVpos, Nat.mul_comm]; exact hlt
  generalize U / V = q at *
  have hUg : U < (r2 * 4294967296 + r1 + 1) * (P * 4294967296) := by
    have a : (r2 * 4294967296 + r1 + 1) * (P * 4294967296) = (r2 * 4294967296 + r1) * 4294967296 * P + 4294967296 * P := by grind
    have b : ((r2 * 4294967296 + r1) * 4294967296 + r0) * P = (r2 * 4294967296 + r1) * 4294967296 * P + r0 * P := by grind
    have c : (r0 + 1) * P ≤ 4294967296 * P := Nat.mul_le_mul_right _ (by omega)
    have d : (r0 + 1) * P = r0 * P + P := by grind
    omega
  have hUg2 : (r2 * 4294967296 + r1) * P * 4294967296 ≤ U := by
    have b : ((r2 * 4294967296 + r1) * 4294967296 + r0) * P = (r2 * 4294967296 + r1) * P * 4294967296 + r0 * P := by grind
    omega
  have hlow := guess_low hUg hVf hq1
  unfold estQ
  split
  · rename_i hr
    refine ⟨by omega, ?_⟩
    -- the highest digit is the divisor's
    have hd : 4294967295 * f ≤ r2 * 4294967296 + r1 := by omega
    have hr2 : r2 ≤ f := by
      rcases Nat.lt_or_ge f r2 with h | h
      · exfalso
        have a : (f + 1) * 4294967296 ≤ r2 * 4294967296 := Nat.mul_le_mul_right _ h
        have b : (f + 1) * 4294967296 * (P * 4294967296) ≤ (r2 * 4294967296 + r1) * (P * 4294967296) := Nat.mul_le_mul_right _ (Nat.le_trans a (Nat.le_add_right _ _))
        have c : V * 4294967296 < (f + 1) * (P * 4294967296) * 4294967296 := Nat.mul_lt_mul_of_pos_right hVf2 (by omega)
        have d : (f + 1) * (P * 4294967296) * 4294967296 = (f + 1) * 4294967296 * (P * 4294967296) := by grind
        have e : (r2 * 4294967296 + r1) * (P * 4294967296) = (r2 * 4294967296 + r1) * P * 4294967296 := by grind
        omega
      · exact h
    rcases Nat.lt_or_ge (q + 1) 4294967295 with h | h
    · -- a guess of one less than the base would be two too great: its sharper bound
      exfalso
      have h1 : (q + 1) * V ≤ 4294967294 * V := Nat.mul_le_mul_right _ (by omega)
      have h2 : 4294967294 * V < 4294967294 * ((f + 1) * (P * 4294967296)) := Nat.mul_lt_mul_of_pos_left hVf2 (by omega)
      have h3 : 4294967294 * (f + 1) ≤ r2 * 4294967296 + r1 := by omega
      have h4 : 4294967294 * (f + 1) * (P * 4294967296) ≤ (r2 * 4294967296 + r1) * (P * 4294967296) := Nat.mul_le_mul_right _ h3
      have e : (r2 * 4294967296 + r1) * (P * 4294967296) = (r2 * 4294967296 + r1) * P * 4294967296 := by grind
      have e2 : 4294967294 * ((f + 1) * (P * 4294967296)) = 4294967294 * (f + 1) * (P * 4294967296) := by grind
      omega
    · omega
  · rename_i hr
    have hfpos : 0 < f := by omega
    have hdm := Nat.div_add_mod (r2 * 4294967296 + r1) f
    have hdB : (r2 * 4294967296 + r1) / f < 4294967296 := by
      rw [Nat.div_lt_iff_lt_mul hfpos]
      have : (r2 + 1) * 4294967296 ≤ f * 4294967296 := Nat.mul_le_mul_right _ (by omega)
      omega
    have hle : q ≤ (r2 * 4294967296 + r1) / f := by rw [Nat.le_div_iff_mul_le hfpos]; exact hlow
    generalize (r2 * 4294967296 + r1) / f = d at *
    generalize (r2 * 4294967296 + r1) % f = l at *
    have hd2 : d ≤ q + 2 := guess_high hUg2 hVf2 (by rw [Nat.mul_comm]; omega) hdB hf hq2
    split
    · rename_i ht
      refine ⟨?_, by omega⟩
      -- the guess times the two highest digits is more than the three highest digits
      rcases Nat.lt_or_ge q d with h | h
      · omega
      · exfalso
        have e1 : d = q := by omega
        subst e1
        have h1 : (r2 * 4294967296 + r1) * 4294967296 + r0 + 1 ≤ d * (f * 4294967296 + s) := mulB hdm ht
        have h2 : ((r2 * 4294967296 + r1) * 4294967296 + r0 + 1) * P ≤ d * (f * 4294967296 + s) * P := Nat.mul_le_mul_right _ h1
        have h3 : ((r2 * 4294967296 + r1) * 4294967296 + r0 + 1) * P = ((r2 * 4294967296 + r1) * 4294967296 + r0) * P + P := by grind
        have h4 : d * V = d * (f * 4294967296 + s) * P + d * v' := by rw [hV]; grind
        omega
    · rename_i ht
      refine ⟨hle, ?_⟩
      rcases Nat.lt_or_ge (q + 1) d with h | h
      · exfalso
        have h1 : d * (f * 4294967296 + s) ≤ (r2 * 4294967296 + r1) * 4294967296 + r0 := mulB2 hdm (Nat.le_of_not_lt ht)
        have h2 : d * (f * 4294967296 + s) * P ≤ ((r2 * 4294967296 + r1) * 4294967296 + r0) * P := Nat.mul_le_mul_right _ h1
        have h4 : d * V = d * (f * 4294967296 + s) * P + d * v' := by rw [hV]; grind
        have h5 : (q + 2) * V ≤ d * V := Nat.mul_le_mul_right _ h
        have h6 : (q + 2) * V = (q + 1) * V + V := by grind
        have h7 : d * v' ≤ 4294967296 * P := Nat.mul_le_mul (by omega) (by omega)
        have h8 : P * 4294967296 ≤ f * (P * 4294967296) := Nat.le_mul_of_pos_left _ hfpos
        exact last_step h2 h4 h5 h6 h7 h8 hVf hq2 hU
      · exact h

end Go.Proofs.YtbbemgeinlehmaaGreatDoor.Dig

namespace Go.Proofs.YtbbemgeinlehmaaGreatDoor.Dig

/-- a list in which some places are written anew -/
def splice (ds : List Nat) (o : Nat) (outs : List Nat) : List Nat := ds.take o ++ outs ++ ds.drop (o + outs.length)
theorem splice_nil (ds : List Nat) (o : Nat) : splice ds o [] = ds := by simp [splice]
theorem splice_len {ds : List Nat} {o : Nat} {outs : List Nat} (h : o + outs.length ≤ ds.length) : (splice ds o outs).length = ds.length := by
  simp [splice]; omega
theorem splice_set {ds : List Nat} {o d : Nat} {outs : List Nat} (h : o + outs.length < ds.length) : (splice ds o outs).set (o + outs.length) d = splice ds o (outs ++ [d]) := by
  unfold splice
  rw [List.set_append_right _ _ (by simp; omega)]
  rw [show ds.drop (o + outs.length) = ds[o + outs.length] :: ds.drop (o + outs.length + 1) from List.drop_eq_getElem_cons h]
  have : o + outs.length - (ds.take o ++ outs).length = 0 := by simp; omega
  rw [this]
  simp [Nat.add_assoc]
theorem splice_set_down {ds : List Nat} {j d : Nat} {outs : List Nat} (h : j < ds.length) : (splice ds (j + 1) outs).set j d = splice ds j (d :: outs) := by
  unfold splice
  rw [List.append_assoc, List.set_append_left _ _ (by simp; omega), List.take_succ_eq_append_getElem h]
  rw [List.set_append_right _ _ (by simp; omega)]
  have : j - (ds.take j).length = 0 := by simp; omega
  rw [this]
  simp [Nat.add_assoc, Nat.add_comm 1]
theorem splice_getD_ge {ds : List Nat} {o i : Nat} {outs : List Nat} (h : o + outs.length ≤ i) (ho : o ≤ ds.length) : (splice ds o outs).getD i 0 = ds.getD i 0 := by
  unfold splice
  simp only [List.getD]
  rw [List.getElem?_append_right (by simp; omega), List.getElem?_drop]
  congr 2
  simp; omega
theorem splice_getD_lt {ds : List Nat} {o i : Nat} {outs : List Nat} (h : i < o) (ho : o ≤ ds.length) : (splice ds o outs).getD i 0 = ds.getD i 0 := by
  unfold splice
  simp only [List.getD]
  rw [List.append_assoc, List.getElem?_append_left (by simp; omega), List.getElem?_take, if_pos h]
theorem splice_getD_mid {ds : List Nat} {o i : Nat} {outs : List Nat} (h : i < outs.length) (ho : o ≤ ds.length) : (splice ds o outs).getD (o + i) 0 = outs.getD i 0 := by
  unfold splice
  simp only [List.getD]
  rw [List.append_assoc, List.getElem?_append_right (by simp; omega), List.getElem?_append_left (by simp; omega)]
  congr 2
  simp; omega
theorem isDig_splice {ds : List Nat} {o : Nat} {outs : List Nat} (h : IsDig ds) (k : IsDig outs) : IsDig (splice ds o outs) :=
  isDig_append (isDig_append (isDig_take h _) k) (fun d hd => h d (List.mem_of_mem_drop hd))
theorem isDig_drop {ds : List Nat} (h : IsDig ds) (k : Nat) : IsDig (ds.drop k) := fun d hd => h d (List.mem_of_mem_drop hd)
theorem isDig_cons {d : Nat} {ds : List Nat} (hd : d < 4294967296) (h : IsDig ds) : IsDig (d :: ds) := fun x hx => by
  rcases List.mem_cons.mp hx with rfl | hx
  · exact hd
  · exact h x hx
theorem isDig_set {ds : List Nat} {i d : Nat} (h : IsDig ds) (hd : d < 4294967296) : IsDig (ds.set i d) := fun x hx => by
  rcases List.mem_or_eq_of_mem_set hx with hx | rfl
  · exact h x hx
  · exact hd
theorem getD_set_self {ds : List Nat} {i d : Nat} (h : i < ds.length) : (ds.set i d).getD i 0 = d := by simp [List.getD, h]
theorem getD_set_other {ds : List Nat} {i j d : Nat} (h : i ≠ j) : (ds.set i d).getD j 0 = ds.getD j 0 := by simp [List.getD, List.getElem?_set_ne h]
theorem drop_take_getD {ds : List Nat} {o n i : Nat} (h : i < n) : ((ds.drop o).take n).getD i 0 = ds.getD (o + i) 0 := by
  simp only [List.getD]
  rw [List.getElem?_take, if_pos h, List.getElem?_drop]
theorem getD_ge {ds : List Nat} {i : Nat} (h : ds.length ≤ i) : ds.getD i 0 = 0 := by simp [List.getD, h]

theorem num_drop (ds : List Nat) (j : Nat) : num (ds.drop j) = ds.getD j 0 + 4294967296 * num (ds.drop (j + 1)) := by
  by_cases h : j < ds.length
  · rw [drop_one h, num]
  · rw [List.drop_of_length_le (by omega), List.drop_of_length_le (by omega), getD_ge (by omega)]; rfl
theorem num_split (ds : List Nat) {j : Nat} (h : j ≤ ds.length) : num ds = num (ds.take j) + 4294967296 ^ j * num (ds.drop j) := by
  have := num_append (ds.take j) (ds.drop j)
  rw [List.take_append_drop, List.length_take, Nat.min_eq_left h] at this
  exact this
theorem powB (k : Nat) : 0 < 4294967296 ^ k := Nat.pow_pos (by omega)

/-- how many digits are left without noughts at the end -/
def sig (ds : List Nat) : Nat := (digs (num ds)).length
theorem sig_le {ds : List Nat} (h : IsDig ds) : sig ds ≤ ds.length := digs_len_num h
theorem sig_of {ds : List Nat} (hd : IsDig ds) {k : Nat} (hk : k ≤ ds.length) (h : ∀ i, k ≤ i → i < ds.length → ds.getD i 0 = 0) (hn : k = 0 ∨ ds.getD (k - 1) 0 ≠ 0) : sig ds = k ∧ digs (num ds) = ds.take k := by
  have e := digs_trim hd hk h hn
  refine ⟨?_, e⟩
  unfold sig; rw [e]; simp; omega
theorem take_sig {ds : List Nat} (hd : IsDig ds) : digs (num ds) = ds.take (sig ds) := by
  -- the greatest place that is not nought
  have : ∀ k, k ≤ ds.length → (∀ i, k ≤ i → i < ds.length → ds.getD i 0 = 0) → digs (num ds) = ds.take (sig ds) := by
    intro k
    induction k with
    | zero => intro hk hz; obtain ⟨h1, h2⟩ := sig_of hd hk hz (.inl rfl); rw [h1]; exact h2
    | succ k ih =>
      intro hk hz
      by_cases h0 : ds.getD k 0 = 0
      · refine ih (by omega) (fun i h1 h2 => ?_)
        by_cases e : i = k
        · subst e; exact h0
        · exact hz i (by omega) h2
      · obtain ⟨h1, h2⟩ := sig_of hd hk hz (.inr (by simpa using h0)); rw [h1]; exact h2
  exact this ds.length (Nat.le_refl _) (fun i h1 h2 => by omega)
theorem right_sig {ds : List Nat} (hd : IsDig ds) : rightB ds = (decide (ds.length ≤ 256) && decide (sig ds = ds.length)) := by
  unfold rightB
  congr 1
  rw [Bool.eq_iff_iff]
  simp only [Bool.or_eq_true, decide_eq_true_eq]
  constructor
  · rintro h
    have : Norm ds := h
    unfold sig; rw [digs_num hd this]
  · intro h
    have e := take_sig hd
    rw [h, List.take_length] at e
    have := norm_digs (num ds)
    rw [e] at this
    exact this

/-- how two lists of digits follow each other -/
def cmpL (xs ys : List Nat) : Int := if xs.length < ys.length then -1 else if ys.length < xs.length then 1 else if num xs < num ys then -1 else if num ys < num xs then 1 else 0
theorem cmpL_norm {xs ys : List Nat} (hx : IsDig xs) (hy : IsDig ys) (nx : Norm xs) (ny : Norm ys) : cmpL xs ys = if num xs < num ys then -1 else if num ys < num xs then 1 else 0 := by
  unfold cmpL
  split
  · rename_i h; rw [if_pos (len_less hx ny h)]
  · split
    · rename_i h; have := len_less hy nx h; rw [if_neg (by omega), if_pos this]
    · rfl
theorem cmpD_cmpL {xs ys : List Nat} (hx : IsDig xs) (hy : IsDig ys) : cmpD xs ys = if rightB xs = true ∧ rightB ys = true then (cmpL xs ys, 0) else (0, 2) := by
  unfold cmpD
  split
  · rename_i h
    rw [cmpL_norm hx hy (right_norm h.1).2 (right_norm h.2).2]
    split
    · rfl
    · split <;> rfl
  · rfl
theorem cmpL_lt {xs ys : List Nat} (hx : IsDig xs) (hy : IsDig ys) (nx : Norm xs) (ny : Norm ys) : cmpL xs ys < 0 ↔ num xs < num ys := by
  rw [cmpL_norm hx hy nx ny]
  split
  · simp; assumption
  · split <;> simp <;> omega

/-- the digits of a sum: as many as the longer number has, or one more -/
theorem digs_len_of {n k : Nat} (h1 : 4294967296 ^ k ≤ n) (h2 : n < 4294967296 ^ (k + 1)) : (digs n).length = k + 1 := by
  have := digs_len_le h2
  have := digs_len_gt h1
  omega
theorem norm_ge {ds : List Nat} (hn : Norm ds) (hl : ds.length ≠ 0) : 4294967296 ^ (ds.length - 1) ≤ num ds := by
  rcases hn with h | h
  · exact absurd h hl
  · rw [num_split ds (j := ds.length - 1) (by omega), num_drop]
    have : 4294967296 ^ (ds.length - 1) * 1 ≤ 4294967296 ^ (ds.length - 1) * (ds.getD (ds.length - 1) 0 + 4294967296 * num (ds.drop (ds.length - 1 + 1))) := Nat.mul_le_mul_left _ (by omega)
    omega
theorem norm_of_ge {ds : List Nat} (hd : IsDig ds) (h : 4294967296 ^ (ds.length - 1) ≤ num ds) : Norm ds := by
  by_cases h0 : ds.length = 0
  · exact .inl h0
  · right
    intro hz
    rw [num_split ds (j := ds.length - 1) (by omega), num_drop, hz, List.drop_of_length_le (by omega), num] at h
    have := num_take_lt hd (j := ds.length - 1) (by omega)
    simp at h
    omega
theorem digs_of_ge {ds : List Nat} (hd : IsDig ds) (h : 4294967296 ^ (ds.length - 1) ≤ num ds) : digs (num ds) = ds := digs_num hd (norm_of_ge hd h)

/-- the sum's length, place by place from above -/
theorem sumlen_step {xs ys : List Nat} {m j : Nat} (hj : j < m) (h : num (xs.drop (j + 1)) + num (ys.drop (j + 1)) + 1 = 4294967296 ^ (m - (j + 1))) (ht : xs.getD j 0 + ys.getD j 0 = 4294967295) :
    num (xs.drop j) + num (ys.drop j) + 1 = 4294967296 ^ (m - j) := by
  rw [num_drop xs j, num_drop ys j, show m - j = (m - (j + 1)) + 1 by omega, Nat.pow_succ, ← h]
  omega
theorem num_split_any {ds : List Nat} (hd : IsDig ds) (j : Nat) : ∃ t, t < 4294967296 ^ j ∧ num ds = t + 4294967296 ^ j * num (ds.drop j) := by
  by_cases h : j ≤ ds.length
  · exact ⟨_, num_take_lt hd h, num_split ds h⟩
  · refine ⟨num ds, Nat.lt_of_lt_of_le (num_lt hd) (Nat.pow_le_pow_right (by omega) (by omega)), ?_⟩
    rw [List.drop_of_length_le (by omega), num]; simp
theorem sumlen_low {xs ys : List Nat} {m j : Nat} (hx : IsDig xs) (hy : IsDig ys) (hj : j < m) (h : num (xs.drop (j + 1)) + num (ys.drop (j + 1)) + 1 = 4294967296 ^ (m - (j + 1))) (ht : xs.getD j 0 + ys.getD j 0 < 4294967295) :
    num xs + num ys < 4294967296 ^ m := by
  obtain ⟨a, ha, ea⟩ := num_split_any hx j
  obtain ⟨b, hb, eb⟩ := num_split_any hy j
  rw [ea, eb, num_drop xs j, num_drop ys j]
  have e : 4294967296 ^ m = 4294967296 ^ j * (4294967296 ^ (m - (j + 1)) * 4294967296) := by
    rw [← Nat.pow_succ, ← Nat.pow_add]; congr 1; omega
  rw [e, ← h]
  have hle : 4294967296 ^ j * (xs.getD j 0 + 4294967296 * num (xs.drop (j + 1)) + (ys.getD j 0 + 4294967296 * num (ys.drop (j + 1))) + 2) ≤ 4294967296 ^ j * ((num (xs.drop (j + 1)) + num (ys.drop (j + 1)) + 1) * 4294967296) := Nat.mul_le_mul_left _ (by omega)
  rw [Nat.mul_add, Nat.mul_add] at hle
  omega
theorem sumlen_high {xs ys : List Nat} {m j : Nat} (hx : IsDig xs) (hy : IsDig ys) (hj : j < m) (h : num (xs.drop (j + 1)) + num (ys.drop (j + 1)) + 1 = 4294967296 ^ (m - (j + 1))) (ht : 4294967296 ≤ xs.getD j 0 + ys.getD j 0) :
    4294967296 ^ m ≤ num xs + num ys := by
  obtain ⟨a, ha, ea⟩ := num_split_any hx j
  obtain ⟨b, hb, eb⟩ := num_split_any hy j
  rw [ea, eb, num_drop xs j, num_drop ys j]
  have e : 4294967296 ^ m = 4294967296 ^ j * (4294967296 ^ (m - (j + 1)) * 4294967296) := by
    rw [← Nat.pow_succ, ← Nat.pow_add]; congr 1; omega
  rw [e, ← h]
  have hle : 4294967296 ^ j * ((num (xs.drop (j + 1)) + num (ys.drop (j + 1)) + 1) * 4294967296) ≤ 4294967296 ^ j * (xs.getD j 0 + 4294967296 * num (xs.drop (j + 1)) + (ys.getD j 0 + 4294967296 * num (ys.drop (j + 1)))) := Nat.mul_le_mul_left _ (by omega)
  rw [Nat.mul_add] at hle
  omega
theorem sumlen_end {xs ys : List Nat} {m : Nat} (h : num (xs.drop 0) + num (ys.drop 0) + 1 = 4294967296 ^ (m - 0)) : num xs + num ys < 4294967296 ^ m := by
  simp only [List.drop_zero, Nat.sub_zero] at h; omega

/-- a step of the product with a digit, added in its place -/
theorem addTimes_step {W D outs : List Nat} {k c d : Nat} (hl : outs.length = k) (h : num outs + 4294967296 ^ k * c = num (W.take k) + num (D.take k) * d) :
    num (outs ++ [(D.getD k 0 * d + W.getD k 0 + c) % 4294967296]) + 4294967296 ^ (k + 1) * ((D.getD k 0 * d + W.getD k 0 + c) / 4294967296) = num (W.take (k + 1)) + num (D.take (k + 1)) * d := by
  rw [num_snoc, hl, num_take_succ, num_take_succ]
  generalize hn : D.getD k 0 * d + W.getD k 0 + c = n
  have e : 4294967296 ^ k * (n % 4294967296) + 4294967296 ^ (k + 1) * (n / 4294967296) = 4294967296 ^ k * n := by
    rw [Nat.pow_succ, Nat.mul_assoc, ← Nat.mul_add, Nat.mod_add_div]
  have e2 : 4294967296 ^ k * n = 4294967296 ^ k * (D.getD k 0 * d) + 4294967296 ^ k * W.getD k 0 + 4294967296 ^ k * c := by
    rw [← hn, Nat.mul_add, Nat.mul_add]
  have e3 : (num (D.take k) + 4294967296 ^ k * D.getD k 0) * d = num (D.take k) * d + 4294967296 ^ k * (D.getD k 0 * d) := by grind
  omega
theorem timesPlus_fit {x y a b : Nat} (hx : x < 4294967296) (hy : y < 4294967296) (ha : a < 4294967296) (hb : b < 4294967296) : x * y + a + b < 18446744073709551616 := by
  have : x * y ≤ 4294967295 * 4294967295 := Nat.mul_le_mul (by omega) (by omega)
  omega
theorem subT_step {W D outs : List Nat} {k c b d : Nat} (hl : outs.length = k) (hw : W.getD k 0 < 4294967296) (hb : b ≤ 1)
    (h : num outs + num (D.take k) * d = num (W.take k) + 4294967296 ^ k * (c + b)) :
    num (outs ++ [(4294967296 + W.getD k 0 - (D.getD k 0 * d + c) % 4294967296 - b) % 4294967296]) + num (D.take (k + 1)) * d =
      num (W.take (k + 1)) + 4294967296 ^ (k + 1) * ((D.getD k 0 * d + c) / 4294967296 + (1 - (4294967296 + W.getD k 0 - (D.getD k 0 * d + c) % 4294967296 - b) / 4294967296)) := by
  rw [num_snoc, hl, num_take_succ, num_take_succ]
  generalize W.getD k 0 = x at *
  generalize D.getD k 0 = y at *
  have hn : (y * d + c) % 4294967296 < 4294967296 := Nat.mod_lt _ (by omega)
  have hdm := Nat.div_add_mod (y * d + c) 4294967296
  generalize (y * d + c) / 4294967296 = hi at *
  generalize (y * d + c) % 4294967296 = lo at *
  generalize hm : 4294967296 + x - lo - b = m
  have e1 : (m % 4294967296) + y * d + c + b = x + 4294967296 * (hi + (1 - m / 4294967296)) := by omega
  have e2 : 4294967296 ^ k * ((m % 4294967296) + y * d + c + b) = 4294967296 ^ k * (x + 4294967296 * (hi + (1 - m / 4294967296))) := by rw [e1]
  have e3 : (num (D.take k) + 4294967296 ^ k * y) * d = num (D.take k) * d + 4294967296 ^ k * (y * d) := by grind
  have e4 : 4294967296 ^ (k + 1) * (hi + (1 - m / 4294967296)) = 4294967296 ^ k * (4294967296 * (hi + (1 - m / 4294967296))) := by rw [Nat.pow_succ, Nat.mul_assoc]
  rw [e3, e4]
  rw [Nat.mul_add _ x, Nat.mul_add _ _ b, Nat.mul_add _ _ c, Nat.mul_add _ _ (y * d)] at e2
  rw [Nat.mul_add _ c b] at h
  omega
theorem subT_end {W D outs : List Nat} {n c b d : Nat} (hl : outs.length = n) (hW : W.length = n + 1) (hD : D.length = n) (hw : W.getD n 0 < 4294967296) (hc : c < 4294967296) (hb : b ≤ 1)
    (h : num outs + num (D.take n) * d = num (W.take n) + 4294967296 ^ n * (c + b)) :
    num (outs ++ [(4294967296 + W.getD n 0 - c - b) % 4294967296]) + num D * d = num W + 4294967296 ^ (n + 1) * (1 - (4294967296 + W.getD n 0 - c - b) / 4294967296) := by
  have hs := num_take_succ W n
  rw [List.take_of_length_le (by omega : W.length ≤ n + 1)] at hs
  rw [List.take_of_length_le (by omega : D.length ≤ n)] at h
  rw [num_snoc, hl, hs]
  generalize W.getD n 0 = x at *
  generalize hm : 4294967296 + x - c - b = m
  have e1 : (m % 4294967296) + c + b = x + 4294967296 * (1 - m / 4294967296) := by omega
  have e2 : 4294967296 ^ n * ((m % 4294967296) + c + b) = 4294967296 ^ n * (x + 4294967296 * (1 - m / 4294967296)) := by rw [e1]
  have e4 : 4294967296 ^ (n + 1) * (1 - m / 4294967296) = 4294967296 ^ n * (4294967296 * (1 - m / 4294967296)) := by rw [Nat.pow_succ, Nat.mul_assoc]
  rw [e4]
  rw [Nat.mul_add _ x, Nat.mul_add _ _ b, Nat.mul_add _ _ c] at e2
  rw [Nat.mul_add _ c b] at h
  omega
/-- the last digit of what is added back wraps round -/
theorem addBack_end {W D outs : List Nat} {n c : Nat} (hl : outs.length = n) (hW : W.length = n + 1) (hD : D.length = n) (h : num outs + 4294967296 ^ n * c = num (W.take n) + num (D.take n)) :
    num (outs ++ [(W.getD n 0 + c) % 4294967296]) + 4294967296 ^ (n + 1) * ((W.getD n 0 + c) / 4294967296) = num W + num D := by
  have hs := num_take_succ W n
  rw [List.take_of_length_le (by omega : W.length ≤ n + 1)] at hs
  rw [List.take_of_length_le (by omega : D.length ≤ n)] at h
  rw [num_snoc, hl, hs]
  generalize W.getD n 0 = x at *
  have e : 4294967296 ^ n * ((x + c) % 4294967296) + 4294967296 ^ (n + 1) * ((x + c) / 4294967296) = 4294967296 ^ n * (x + c) := by
    rw [Nat.pow_succ, Nat.mul_assoc, ← Nat.mul_add, Nat.mod_add_div]
  rw [Nat.mul_add] at e
  omega
end Go.Proofs.YtbbemgeinlehmaaGreatDoor.Dig

namespace Go.Proofs.YtbbemgeinlehmaaGreatDoor.Dig
set_option linter.unusedVariables false

/-- the guess of the next digit, off the digits -/
def estD (W D : List Nat) : Nat := estQ (W.getD D.length 0) (W.getD (D.length - 1) 0) (W.getD (D.length - 2) 0) (D.getD (D.length - 1) 0) (D.getD (D.length - 2) 0)
theorem estD_lt {W D : List Nat} (hW : IsDig W) (hD : 2 ≤ D.length) (ht : 2147483648 ≤ D.getD (D.length - 1) 0) : estD W D < 4294967296 := estQ_lt _ _ _ _ _ (getD_lt hW _) (by omega)
theorem num_top2 {D : List Nat} {m : Nat} (h : D.length = m + 2) : num D = (D.getD (m + 1) 0 * 4294967296 + D.getD m 0) * 4294967296 ^ m + num (D.take m) := by
  have h1 := num_take_succ D (m + 1)
  rw [List.take_of_length_le (by omega : D.length ≤ m + 1 + 1), num_take_succ D m, Nat.pow_succ] at h1
  rw [h1]; grind
theorem num_top3 {W : List Nat} {m : Nat} (h : W.length = m + 3) : num W = ((W.getD (m + 2) 0 * 4294967296 + W.getD (m + 1) 0) * 4294967296 + W.getD m 0) * 4294967296 ^ m + num (W.take m) := by
  have h1 := num_take_succ W (m + 2)
  rw [List.take_of_length_le (by omega : W.length ≤ m + 2 + 1), num_take_succ W (m + 1), num_take_succ W m, Nat.pow_succ, Nat.pow_succ] at h1
  rw [h1]; grind
theorem estD_ok {W D : List Nat} {m : Nat} (hW : IsDig W) (hD : IsDig D) (lD : D.length = m + 2) (lW : W.length = m + 3) (ht : 2147483648 ≤ D.getD (D.length - 1) 0) (hlt : num W < num D * 4294967296) :
    num W / num D ≤ estD W D ∧ estD W D ≤ num W / num D + 1 := by
  unfold estD
  rw [lD] at ht ⊢
  rw [show m + 2 - 1 = m + 1 by omega, show m + 2 - 2 = m by omega]
  exact estQ_ok (P := 4294967296 ^ m) (num_top2 lD) (num_take_lt hD (by omega)) (num_top3 lW) (num_take_lt hW (by omega)) (getD_lt hD _) (getD_lt hW _) (getD_lt hW _) (by rw [show m + 2 - 1 = m + 1 by omega] at ht; omega) hlt

/-- the guess is right: nothing was borrowed -/
theorem step_fine {W D O : List Nat} {n b d : Nat} (lO : O.length = n + 1) (dO : IsDig O) (hd : d = num W / num D) (h : num O + num D * d = num W + 4294967296 ^ (n + 1) * b) (hb : b ≤ 1) :
    b = 0 ∧ num O = num W % num D := by
  have h1 := num_lt dO
  rw [lO] at h1
  have h2 := Nat.div_add_mod (num W) (num D)
  rw [← hd] at h2
  rcases (show b = 0 ∨ b = 1 by omega) with rfl | rfl
  · rw [Nat.mul_zero] at h
    exact ⟨rfl, by omega⟩
  · exfalso
    rw [Nat.mul_one] at h
    omega
/-- the guess is one too great: it was borrowed, and is put right by adding back -/
theorem step_back {W D O : List Nat} {n b d : Nat} (hp : 0 < num D) (dD : num D < 4294967296 ^ (n + 1)) (hd : d = num W / num D + 1) (h : num O + num D * d = num W + 4294967296 ^ (n + 1) * b) (hb : b ≤ 1) :
    b = 1 ∧ num W % num D + 4294967296 ^ (n + 1) = num O + num D := by
  have h2 := Nat.div_add_mod (num W) (num D)
  have h3 := Nat.mod_lt (num W) hp
  have e : num D * d = num D * (num W / num D) + num D := by rw [hd, Nat.mul_add, Nat.mul_one]
  rcases (show b = 0 ∨ b = 1 by omega) with rfl | rfl
  · exfalso; rw [Nat.mul_zero] at h; omega
  · rw [Nat.mul_one] at h
    exact ⟨rfl, by omega⟩
theorem back_num {O2 : List Nat} {n c r x V : Nat} (l2 : O2.length = n + 1) (d2 : IsDig O2) (hr : r < 4294967296 ^ (n + 1)) (h1 : r + 4294967296 ^ (n + 1) = x) (h2 : num O2 + 4294967296 ^ (n + 1) * c = x) (hc : c ≤ 1) : num O2 = r := by
  have h3 := num_lt d2
  rw [l2] at h3
  rcases (show c = 0 ∨ c = 1 by omega) with rfl | rfl
  · rw [Nat.mul_zero] at h2; omega
  · rw [Nat.mul_one] at h2; omega

/-- the state of the long division: A is to be divided by V, of n digits; k digits of the quotient are left -/
def LongInv (A V n L m k : Nat) (R qs : List Nat) : Prop :=
  IsDig R ∧ R.length = L + 1 ∧ IsDig qs ∧ qs.length + k = m ∧ num R + V * (4294967296 ^ k * num qs) = A ∧ num (R.drop k) < V
theorem high_zero {R : List Nat} {k n V : Nat} (hlt : num (R.drop k) < V) (hV : V ≤ 4294967296 ^ n) (hl : k + n ≤ R.length) : num (R.drop (k + n)) = 0 := by
  have h := num_split (R.drop k) (j := n) (by simp; omega)
  rw [List.drop_drop] at h
  rcases Nat.eq_zero_or_pos (num (R.drop (k + n))) with h0 | h0
  · exact h0
  · have : 4294967296 ^ n * 1 ≤ 4294967296 ^ n * num (R.drop (k + n)) := Nat.mul_le_mul_left _ h0
    omega
theorem window_num {R : List Nat} {j n V : Nat} (hlt : num (R.drop (j + 1)) < V) (hV : V ≤ 4294967296 ^ n) (hl : j + 1 + n ≤ R.length) :
    num ((R.drop j).take (n + 1)) = num (R.drop j) ∧ num (R.drop (j + (n + 1))) = 0 := by
  have h0 := high_zero hlt hV hl
  have h := num_split (R.drop j) (j := n + 1) (by simp; omega)
  rw [List.drop_drop, show j + (n + 1) = j + 1 + n by omega, h0, Nat.mul_zero] at h
  exact ⟨by omega, by rw [show j + (n + 1) = j + 1 + n by omega]; exact h0⟩
theorem window_lt {R : List Nat} {j n V : Nat} (hR : IsDig R) (hlt : num (R.drop (j + 1)) < V) (hV : V ≤ 4294967296 ^ n) (hl : j + 1 + n ≤ R.length) :
    num ((R.drop j).take (n + 1)) < V * 4294967296 := by
  rw [(window_num hlt hV hl).1, num_drop]
  have h1 := getD_lt hR j
  have : (num (R.drop (j + 1)) + 1) * 4294967296 ≤ V * 4294967296 := Nat.mul_le_mul_right _ hlt
  omega
theorem num_splice {ds outs : List Nat} {o : Nat} (h : o + outs.length ≤ ds.length) : num (splice ds o outs) = num (ds.take o) + 4294967296 ^ o * (num outs + 4294967296 ^ outs.length * num (ds.drop (o + outs.length))) := by
  unfold splice
  rw [List.append_assoc, num_append, num_append, List.length_take, Nat.min_eq_left (by omega)]
theorem drop_splice {ds outs : List Nat} {o : Nat} (h : o + outs.length ≤ ds.length) : (splice ds o outs).drop o = outs ++ ds.drop (o + outs.length) := by
  unfold splice
  rw [List.append_assoc, List.drop_append_of_le_length (by simp; omega)]
  simp
theorem long_step {A V n L m j q : Nat} {R qs O : List Nat} (h : LongInv A V n L m (j + 1) R qs) (hV : V ≤ 4294967296 ^ n) (hl : j + 1 + n ≤ L + 1) (lO : O.length = n + 1) (dO : IsDig O)
    (hO : num O = num ((R.drop j).take (n + 1)) % V) (hq : q = num ((R.drop j).take (n + 1)) / V) (hqB : q < 4294967296) (hVp : 0 < V) : LongInv A V n L m j (splice R j O) (q :: qs) := by
  obtain ⟨h1, h2, h3, h4, h5, h6⟩ := h
  obtain ⟨e1, e2⟩ := window_num h6 hV (by omega)
  have hs := splice_len (ds := R) (o := j) (outs := O) (by omega)
  have ed := drop_splice (ds := R) (o := j) (outs := O) (by omega)
  have en := num_splice (ds := R) (o := j) (outs := O) (by omega)
  rw [lO, e2, Nat.mul_zero, Nat.add_zero] at en
  rw [lO] at ed
  refine ⟨isDig_splice h1 dO, by omega, isDig_cons hqB h3, by simp; omega, ?_, ?_⟩
  · have hR := num_split R (j := j) (by omega)
    rw [← e1] at hR
    have hdm := Nat.div_add_mod (num ((R.drop j).take (n + 1))) V
    rw [← hq, ← hO] at hdm
    rw [en, num]
    rw [← hdm] at hR
    rw [← h5, hR, Nat.pow_succ]
    grind
  · rw [ed, num_append, e2, hO]
    simpa using Nat.mod_lt _ hVp
theorem long_end {A V n L m : Nat} {R qs : List Nat} (h : LongInv A V n L m 0 R qs) : num qs = A / V ∧ num R = A % V ∧ IsDig qs ∧ qs.length = m := by
  obtain ⟨h1, h2, h3, h4, h5, h6⟩ := h
  simp only [Nat.pow_zero, Nat.one_mul, List.drop_zero] at h5 h6
  have hV : 0 < V := by omega
  refine ⟨?_, ?_, h3, by omega⟩
  · rw [← h5, Nat.add_mul_div_left _ _ hV, Nat.div_eq_of_lt h6, Nat.zero_add]
  · rw [← h5, Nat.add_mul_mod_self_left, Nat.mod_eq_of_lt h6]
theorem long_start {A V n L m : Nat} {R : List Nat} (hR : IsDig R) (hl : R.length = L + 1) (hm : m ≤ L + 1) (hA : num R = A) (hlt : A < V * 4294967296 ^ m) : LongInv A V n L m m R [] := by
  refine ⟨hR, hl, isDig_nil, by simp, by simp [num, hA], ?_⟩
  have h := num_split R (j := m) (by omega)
  rw [hA] at h
  rcases Nat.lt_or_ge (num (R.drop m)) V with h1 | h1
  · exact h1
  · have : V * 4294967296 ^ m ≤ num (R.drop m) * 4294967296 ^ m := Nat.mul_le_mul_right _ h1
    rw [Nat.mul_comm (num (R.drop m))] at this
    omega

/-- the quotient's number of digits -/
def qlen (xs ys : List Nat) : Nat := if 0 ≤ cmpL (xs.drop (xs.length - ys.length)) ys then xs.length - ys.length + 1 else xs.length - ys.length
theorem norm_drop {xs : List Nat} (h : Norm xs) {k : Nat} (hk : k < xs.length) : Norm (xs.drop k) := by
  rcases h with h | h
  · omega
  · right
    have : (xs.drop k).getD ((xs.drop k).length - 1) 0 = xs.getD (xs.length - 1) 0 := by
      simp only [List.getD, List.getElem?_drop, List.length_drop]
      congr 2; omega
    rw [this]; exact h
theorem qlen_ok {xs ys : List Nat} (hx : IsDig xs) (hy : IsDig ys) (nx : Norm xs) (ny : Norm ys) (h0 : ys.length ≠ 0) (hle : num ys ≤ num xs) :
    1 ≤ qlen xs ys ∧ qlen xs ys ≤ xs.length ∧ num xs < num ys * 4294967296 ^ qlen xs ys ∧ 4294967296 ^ (qlen xs ys - 1) * num ys ≤ num xs ∧ (qlen xs ys = xs.length - ys.length ∨ qlen xs ys = xs.length - ys.length + 1) := by
  have hl := norm_len_le hx ny hle
  obtain ⟨e, he⟩ : ∃ e, e = xs.length - ys.length := ⟨_, rfl⟩
  have hs := num_split xs (j := e) (by omega)
  have ht := num_take_lt hx (j := e) (by omega)
  have hD := isDig_drop hx e
  have hN := norm_drop nx (k := e) (by omega)
  have hc := cmpL_norm hD hy hN ny
  have hlen : (xs.drop e).length = ys.length := by simp; omega
  have hxlt := num_lt hD
  rw [hlen] at hxlt
  have hyge := norm_ge ny h0
  have hpe := powB e
  unfold qlen
  rw [← he, hc]
  by_cases h1 : num (xs.drop e) < num ys
  · rw [if_pos h1, if_neg (by decide)]
    have he0 : e ≠ 0 := by
      rintro rfl
      rw [List.drop_zero] at h1
      omega
    have hmul : 4294967296 ^ e * (num (xs.drop e) + 1) ≤ 4294967296 ^ e * num ys := Nat.mul_le_mul_left _ h1
    rw [Nat.mul_add, Nat.mul_one] at hmul
    refine ⟨by omega, by omega, by rw [Nat.mul_comm]; omega, ?_, .inl rfl⟩
    have hxge := norm_ge nx (by omega)
    have hylt := num_lt hy
    have : 4294967296 ^ (e - 1) * num ys ≤ 4294967296 ^ (e - 1) * 4294967296 ^ ys.length := Nat.mul_le_mul_left _ (by omega)
    rw [← Nat.pow_add, show e - 1 + ys.length = xs.length - 1 by omega] at this
    omega
  · rw [if_neg h1]
    have hge : (0 : Int) ≤ (if num ys < num (xs.drop e) then (1 : Int) else 0) := by split <;> decide
    rw [if_pos hge]
    refine ⟨by omega, by omega, ?_, ?_, .inr rfl⟩
    · have hxlt2 := num_lt hx
      have e3 : 4294967296 ^ (ys.length - 1) * 4294967296 ^ (e + 1) ≤ num ys * 4294967296 ^ (e + 1) := Nat.mul_le_mul_right _ hyge
      rw [← Nat.pow_add, show ys.length - 1 + (e + 1) = xs.length by omega] at e3
      omega
    · rw [Nat.add_sub_cancel]
      have : 4294967296 ^ e * num ys ≤ 4294967296 ^ e * num (xs.drop e) := Nat.mul_le_mul_left _ (by omega)
      omega
theorem quot_norm {xs ys qs : List Nat} {m : Nat} (hp : 0 < num ys) (hq : num qs = num xs / num ys) (dq : IsDig qs) (lq : qs.length = m) (h : 4294967296 ^ (m - 1) * num ys ≤ num xs) : digs (num xs / num ys) = qs := by
  rw [← hq]
  refine digs_of_ge dq ?_
  rw [hq, lq, Nat.le_div_iff_mul_le hp]
  exact h

/-- shifted up: a step -/
theorem shiftUp_step {xs outs : List Nat} {k c s : Nat} (hs : s ≤ 31) (hx : xs.getD k 0 < 4294967296) (hl : outs.length = k) (hc : c < 2 ^ s) (h : num outs + 4294967296 ^ k * c = num (xs.take k) * 2 ^ s) :
    num (outs ++ [c + xs.getD k 0 * 2 ^ s % 4294967296]) + 4294967296 ^ (k + 1) * (xs.getD k 0 / 2 ^ (32 - s)) = num (xs.take (k + 1)) * 2 ^ s ∧ xs.getD k 0 / 2 ^ (32 - s) < 2 ^ s ∧ c + xs.getD k 0 * 2 ^ s % 4294967296 < 4294967296 ∧ (xs.getD k 0 * 2 ^ s % 4294967296) = 2 ^ s * (xs.getD k 0 % 2 ^ (32 - s)) := by
  have hB : (4294967296 : Nat) = 2 ^ (32 - s) * 2 ^ s := by rw [← Nat.pow_add, show 32 - s + s = 32 by omega]
  have hp := Nat.pow_pos (n := s) (show 0 < 2 by omega)
  have hp2 := Nat.pow_pos (n := 32 - s) (show 0 < 2 by omega)
  rw [num_snoc, hl, num_take_succ]
  generalize xs.getD k 0 = x at *
  have e1 : x * 2 ^ s % 4294967296 = 2 ^ s * (x % 2 ^ (32 - s)) := by
    rw [hB, Nat.mul_mod_mul_right, Nat.mul_comm]
  have e2 : x / 2 ^ (32 - s) < 2 ^ s := by
    rw [Nat.div_lt_iff_lt_mul hp2, Nat.mul_comm, ← hB]; exact hx
  have e3 : c + x * 2 ^ s % 4294967296 < 4294967296 := by
    rw [e1]
    have hm := Nat.mod_lt x hp2
    have : 2 ^ s * (x % 2 ^ (32 - s) + 1) ≤ 2 ^ s * 2 ^ (32 - s) := Nat.mul_le_mul_left _ hm
    rw [Nat.mul_comm (2 ^ s) (2 ^ (32 - s)), ← hB, Nat.mul_add] at this
    omega
  refine ⟨?_, e2, e3, e1⟩
  have hdm := Nat.div_add_mod x (2 ^ (32 - s))
  have e4 : x * 2 ^ s = 4294967296 * (x / 2 ^ (32 - s)) + x * 2 ^ s % 4294967296 := by
    rw [e1]
    conv => lhs; rw [← hdm]
    rw [hB]; grind
  have e5 : 4294967296 ^ k * (x * 2 ^ s) = 4294967296 ^ (k + 1) * (x / 2 ^ (32 - s)) + 4294967296 ^ k * (x * 2 ^ s % 4294967296) := by
    conv => lhs; rw [e4]
    rw [Nat.mul_add, Nat.pow_succ, Nat.mul_assoc]
  have e6 : (num (xs.take k) + 4294967296 ^ k * x) * 2 ^ s = num (xs.take k) * 2 ^ s + 4294967296 ^ k * (x * 2 ^ s) := by grind
  rw [e6, e5, Nat.mul_add]
  omega
/-- shifted down: a step -/
theorem shiftDown_step {ds outs : List Nat} {k s : Nat} (hd : IsDig ds) (hs : s ≤ 31) (hk : k < ds.length) (hl : outs.length = k) (h : num outs = num ds / 2 ^ s % 4294967296 ^ k) :
    num (outs ++ [ds.getD k 0 / 2 ^ s + ds.getD (k + 1) 0 * 2 ^ (32 - s) % 4294967296]) = num ds / 2 ^ s % 4294967296 ^ (k + 1) ∧
    ds.getD k 0 / 2 ^ s < 2 ^ (32 - s) ∧ ds.getD k 0 / 2 ^ s + ds.getD (k + 1) 0 * 2 ^ (32 - s) % 4294967296 < 4294967296 ∧ (ds.getD (k + 1) 0 * 2 ^ (32 - s) % 4294967296) = 2 ^ (32 - s) * (ds.getD (k + 1) 0 % 2 ^ s) := by
  have hB : (4294967296 : Nat) = 2 ^ s * 2 ^ (32 - s) := by rw [← Nat.pow_add, show s + (32 - s) = 32 by omega]
  have hp := Nat.pow_pos (n := s) (show 0 < 2 by omega)
  have hp2 := Nat.pow_pos (n := 32 - s) (show 0 < 2 by omega)
  have hx := getD_lt hd k
  have e1 : ds.getD (k + 1) 0 * 2 ^ (32 - s) % 4294967296 = 2 ^ (32 - s) * (ds.getD (k + 1) 0 % 2 ^ s) := by
    rw [hB, Nat.mul_mod_mul_right, Nat.mul_comm]
  have e2 : ds.getD k 0 / 2 ^ s < 2 ^ (32 - s) := by
    rw [Nat.div_lt_iff_lt_mul hp, Nat.mul_comm, ← hB]; exact hx
  have e3 : ds.getD k 0 / 2 ^ s + ds.getD (k + 1) 0 * 2 ^ (32 - s) % 4294967296 < 4294967296 := by
    rw [e1]
    have hm := Nat.mod_lt (ds.getD (k + 1) 0) hp
    have : 2 ^ (32 - s) * (ds.getD (k + 1) 0 % 2 ^ s + 1) ≤ 2 ^ (32 - s) * 2 ^ s := Nat.mul_le_mul_left _ hm
    rw [Nat.mul_comm (2 ^ (32 - s)) (2 ^ s), ← hB, Nat.mul_add] at this
    omega
  refine ⟨?_, e2, e3, e1⟩
  rw [num_snoc, hl, h]
  -- the digit at place k of the number, shifted
  have hsp := num_split ds (j := k) (by omega)
  have ht := num_take_lt hd (j := k) (by omega)
  have n1 := num_drop ds k
  have n2 := num_drop ds (k + 1)
  have e4 : num ds / 2 ^ s / 4294967296 ^ k = num (ds.drop k) / 2 ^ s := by
    rw [Nat.div_div_eq_div_mul, Nat.mul_comm, ← Nat.div_div_eq_div_mul, hsp, Nat.add_mul_div_left _ _ (powB k), Nat.div_eq_of_lt ht, Nat.zero_add]
  have e5 : num (ds.drop k) / 2 ^ s % 4294967296 = ds.getD k 0 / 2 ^ s + ds.getD (k + 1) 0 * 2 ^ (32 - s) % 4294967296 := by
    rw [n1, n2]
    generalize ds.getD k 0 = x at *
    generalize ds.getD (k + 1) 0 = y at *
    generalize num (ds.drop (k + 1 + 1)) = z at *
    have a : x + 4294967296 * (y + 4294967296 * z) = x + 2 ^ s * (2 ^ (32 - s) * (y + 4294967296 * z)) := by
      rw [← Nat.mul_assoc, ← hB]
    rw [a, Nat.add_mul_div_left _ _ hp]
    have b : x / 2 ^ s + 2 ^ (32 - s) * (y + 4294967296 * z) = (x / 2 ^ s + y * 2 ^ (32 - s) % 4294967296) + 4294967296 * (y * 2 ^ (32 - s) / 4294967296 + 2 ^ (32 - s) * z) := by
      have := Nat.div_add_mod (y * 2 ^ (32 - s)) 4294967296
      grind
    rw [b, Nat.add_mul_mod_self_left, Nat.mod_eq_of_lt e3]
  rw [← e5, ← e4, Nat.pow_succ, Nat.mod_mul]
theorem shiftDown_end {ds outs : List Nat} {s : Nat} (hd : IsDig ds) (h : num outs = num ds / 2 ^ s % 4294967296 ^ ds.length) : num outs = num ds / 2 ^ s := by
  rw [h]
  exact Nat.mod_eq_of_lt (Nat.lt_of_le_of_lt (Nat.div_le_self _ _) (num_lt hd))
/-- a step of the division by a digit -/
theorem byDigit_step {xs os : List Nat} {j L d : Nat} (hL : L < d) (hx : xs.getD j 0 < 4294967296) (h : num (xs.drop (j + 1)) = d * num os + L) :
    num (xs.drop j) = d * num ((L * 4294967296 + xs.getD j 0) / d :: os) + (L * 4294967296 + xs.getD j 0) % d ∧ (L * 4294967296 + xs.getD j 0) / d < 4294967296 ∧ (L * 4294967296 + xs.getD j 0) % d < d := by
  have hd : 0 < d := by omega
  rw [num_drop, h, num]
  generalize num os = n at *
  generalize xs.getD j 0 = x at *
  have hdm := Nat.div_add_mod (L * 4294967296 + x) d
  refine ⟨?_, ?_, Nat.mod_lt _ hd⟩
  · generalize (L * 4294967296 + x) / d = q at *
    generalize (L * 4294967296 + x) % d = r at *
    grind
  · rw [Nat.div_lt_iff_lt_mul hd]
    have : (L + 1) * 4294967296 ≤ d * 4294967296 := Nat.mul_le_mul_right _ hL
    omega
end Go.Proofs.YtbbemgeinlehmaaGreatDoor.Dig

namespace Go.Proofs.YtbbemgeinlehmaaGreatDoor.Ref02
open Go.RowKit
set_option linter.unusedVariables false
open Go.Proofs.YtbbemgeinlehmaaGreatDoor.Dig

theorem digit_any (v : Value) (ds : List Nat) (i : Nat) (w : World) (h : Row w v ds) (hl : ds.length ≤ 1000000) :
    Calls Tryz.prog 97 #[v, .int .i64 (i : Int)] w fun e w' => e = .returned (.int .u64 ((ds.getD i 0 : Nat) : Int)) ∧ w = w' := by
  obtain ⟨hd, A, c, rfl, hc, -⟩ := h
  have hb := getD_lt hd i
  obtain ⟨d, hdd⟩ : ∃ d, d = ds.getD i 0 := ⟨_, rfl⟩
  rw [← hdd] at hb ⊢
  by_cases hi : i < ds.length
  · obtain ⟨b, o, rfl, hcc⟩ := hc (by omega)
    have hcell := hcc i hi
    rw [← hdd] at hcell
    clear hc hcc hdd hd
    go_enter Tryz.func97, Tryz.ntmps97
    go_wp2
    go_ret
    exact ⟨rfl, rfl⟩
  · have h0 : d = 0 := by rw [hdd]; simp [List.getD, Nat.le_of_not_lt hi]
    subst h0
    clear hc hdd hd
    go_enter Tryz.func97, Tryz.ntmps97
    go_wp2
    go_ret
    exact ⟨rfl, rfl⟩

set_option maxRecDepth 100000 in
theorem right_any (v : Value) (ds : List Nat) (w : World) (h : Row w v ds) (hl : ds.length ≤ 1000000) :
    Calls Tryz.prog 86 #[v] w fun e w' => e = .returned (.bool (rightB ds)) ∧ w = w' := by
  obtain ⟨hd, A, c, rfl, hc, -⟩ := h
  by_cases h1 : 256 < ds.length
  · have e : rightB ds = false := by simp [rightB]; omega
    rw [e]
    clear hc e
    go_enter Tryz.func86, Tryz.ntmps86
    go_wp2
    go_ret
    exact ⟨rfl, rfl⟩
  · by_cases h2 : ds.length = 0
    · have e : rightB ds = true := by simp [rightB, h2]
      rw [e]
      clear hc e
      have z : ((ds.length : Int) == 0) = true := by simp [h2]
      go_enter Tryz.func86, Tryz.ntmps86
      go_wp2
      go_ret
      exact ⟨rfl, rfl⟩
    · obtain ⟨b, o, rfl, hcc⟩ := hc (by omega)
      have hcell := hcc (ds.length - 1) (by omega)
      have e : rightB ds = ((ds.getD (ds.length - 1) 0 : Int) != 0) := by
        simp only [rightB]
        rw [decide_eq_true (by omega : ds.length ≤ 256), decide_eq_false h2]
        simp only [Bool.true_and, Bool.false_or]
        rw [Bool.eq_iff_iff]; simp
      obtain ⟨d, hdd⟩ : ∃ d, d = ds.getD (ds.length - 1) 0 := ⟨_, rfl⟩
      rw [e, ← hdd]
      rw [← hdd] at hcell
      obtain ⟨n, hn⟩ : ∃ n, ds.length = n + 1 := ⟨ds.length - 1, by omega⟩
      rw [hn] at h1 ⊢
      rw [hn, Nat.add_sub_cancel] at hcell
      have z : ((n : Int) + 1 == 0) = false := by simp; omega
      have h1' : (n : Int) + 1 ≤ 256 := by omega
      clear hc hcc hdd hd e h2 hn hl h1
      go_enter Tryz.func86, Tryz.ntmps86
      go_wp2
      go_ret
      exact ⟨rfl, rfl⟩
end Go.Proofs.YtbbemgeinlehmaaGreatDoor.Ref02

namespace Go.Proofs.YtbbemgeinlehmaaGreatDoor.Ref02
open Go.RowKit
set_option linter.unusedVariables false
open Go.Proofs.YtbbemgeinlehmaaGreatDoor.Dig

theorem same_any (va vb : Value) (xs ys : List Nat) (w : World) (hx : Row w va xs) (hy : Row w vb ys) (lx : xs.length ≤ 1000000) (ly : ys.length ≤ 1000000) :
    Calls Tryz.prog 60 #[va, vb] w fun e w' => e = .returned (.bool (sameB xs ys)) ∧ Since w w' := by
  obtain ⟨dx, A, c, rfl, hcx, -⟩ := hx
  obtain ⟨dy, B, c', rfl, hcy, -⟩ := hy
  by_cases hl : xs.length = ys.length
  · have HX := Lib.hid hcx
    have HY := Lib.hid hcy
    have HL := Lib.hid hl
    clear hcx hcy ly dx dy
    rw [← hl]
    clear hl
    obtain ⟨n, hn⟩ : ∃ n, n = xs.length := ⟨_, rfl⟩
    rw [← hn] at lx ⊢
    have HN := Lib.hid hn
    clear hn
    obtain ⟨R, hR⟩ : ∃ R, R = sameB xs ys := ⟨_, rfl⟩
    rw [← hR]
    have HR := Lib.hid hR
    clear hR
    go_enter Tryz.func60, Tryz.ntmps60
    go_wp2
    go_loopw [5] (fun i wr => ∃ k : Nat, k ≤ n ∧ i = .int .i64 k ∧ Hid (xs.take k = ys.take k) ∧ Since w wr) (fun i _ => n - (intOf i).toNat)
    case atStart => exact ⟨0, Nat.zero_le _, rfl, by simp [Hid], Since.refl _⟩
    case round =>
      obtain ⟨k, hk, rfl, heq, hw⟩ := hrel
      by_cases hlt : k < n
      · have hn := HN.out
        obtain ⟨b, o, rfl, hc1⟩ := HX.out (by omega)
        obtain ⟨b', o', rfl, hc2⟩ := HY.out (by rw [← HL.out]; omega)
        have g1 : wr.cell? ⟨b, o + k, none⟩ = some (.int .u32 ((xs.getD k 0 : Nat) : Int)) := (Below.cell hw (World.block_lt_of_cell? _ _ (hc1 k (by omega)))).trans (hc1 k (by omega))
        have g2 : wr.cell? ⟨b', o' + k, none⟩ = some (.int .u32 ((ys.getD k 0 : Nat) : Int)) := (Below.cell hw (World.block_lt_of_cell? _ _ (hc2 k (by rw [← HL.out]; omega)))).trans (hc2 k (by rw [← HL.out]; omega))
        obtain ⟨x, hx⟩ : ∃ x, x = xs.getD k 0 := ⟨_, rfl⟩
        obtain ⟨y, hy⟩ : ∃ y, y = ys.getD k 0 := ⟨_, rfl⟩
        rw [← hx] at g1
        rw [← hy] at g2
        have HXX := Lib.hid (And.intro hx hy)
        clear hc1 hc2 hx hy hn
        by_cases hxy : ((x : Int) != (y : Int)) = true
        · go_wp2
          go_quiet (fail)
          go_wp2
          go_ret
          refine ⟨?_, hw.drewN _⟩
          have : R = false := by
            rw [HR.out, sameB, decide_eq_false]
            rintro rfl
            have h1 := HXX.out.1
            have h2 := HXX.out.2
            simp at hxy
            omega
          exact ret_bool this.symm
        · have hxy' : ((x : Int) != (y : Int)) = false := by simpa using hxy
          clear hxy
          go_wp2
          go_quiet (fail)
          go_wp2
          go_roundw
          case rel =>
            refine ⟨k + 1, by omega, by go_num, ?_, hw.drewN _⟩
            have h1 := HXX.out.1
            have h2 := HXX.out.2
            simp at hxy'
            exact take_more_eq HL.out (by have := HN.out; omega) heq.out (by omega)
          case measure => simp [intOf]; omega
      · go_wp2
        go_ret
        refine ⟨?_, hw⟩
        obtain rfl : k = n := by omega
        have hn := HN.out
        have : R = true := by
          rw [HR.out, sameB, decide_eq_true]
          have h := heq.out
          rw [hn] at h
          exact take_all_eq HL.out h
        exact ret_bool this.symm
  · have hg : ((xs.length : Int) != (ys.length : Int)) = true := by simp; omega
    have HR : sameB xs ys = false := by
      rw [sameB, decide_eq_false]
      rintro rfl
      exact hl rfl
    rw [HR]
    clear hcx hcy HR
    go_enter Tryz.func60, Tryz.ntmps60
    go_wp2
    go_ret
    exact ⟨rfl, Since.refl _⟩

end Go.Proofs.YtbbemgeinlehmaaGreatDoor.Ref02

namespace Go.Proofs.YtbbemgeinlehmaaGreatDoor.Ref02
open Go.RowKit
set_option linter.unusedVariables false
open Go.Proofs.YtbbemgeinlehmaaGreatDoor.Dig

theorem info_u32 : (Tryz.prog.info? 88).map (fun i => (i.zero, i.size, i.bytes)) = some (some (.int .u32 0), 1, 4) := by kernel_rfl

/-- a step of the loop that takes the digits over -/
theorem own_more {w' : World} {base k : Nat} {e : TypeId} {v : Value} {ds : List Nat} (hk : k < ds.length) (h : w'.ownsRow base e 1 v (k + 1) (u32s (ds.take k) ++ [.int .u32 ((ds.getD k 0 : Nat) : Int)])) :
    w'.ownsRow base e 1 v (k + 1) (u32s (ds.take (k + 1))) := by
  rw [take_more hk, u32s_append]; exact h

set_option maxRecDepth 100000 in
set_option maxHeartbeats 800000 in
theorem trim_any (v : Value) (ds : List Nat) (w : World) (h : Row w v ds) (hl : ds.length ≤ 1000000) :
    Calls Tryz.prog 98 #[v] w (RetRow (digs (num ds)) w) := by
  obtain ⟨hd, A, c, rfl, hc, -⟩ := h
  obtain ⟨i0, hi, hz0, hz1, hz2⟩ := info_parts info_u32
  have HC := Lib.hid hc
  have HD := Lib.hid hd
  clear hc hd
  go_enter Tryz.func98, Tryz.ntmps98
  go_wp2
  go_loop [3] (fun i => ∃ k : Nat, k ≤ ds.length ∧ i = .int .i64 k ∧ Hid (∀ i, k ≤ i → i < ds.length → ds.getD i 0 = 0)) (fun i => (intOf i).toNat)
  case atStart => exact ⟨ds.length, Nat.le_refl _, rfl, fun i h1 h2 => by omega⟩
  case round =>
    obtain ⟨k, hk, rfl, hz⟩ := hrel
    have hfin : ∀ (A : Option Addr), (k = 0 ∨ ds.getD (k - 1) 0 ≠ 0) → (∀ k, k < ds.length → ∃ b o, A = some ⟨b, o, none⟩ ∧ w.cell? ⟨b, o + k, none⟩ = some (.int .u32 ((ds.getD k 0 : Nat) : Int))) → True := fun _ _ _ => trivial
    clear hfin
    by_cases h0 : k = 0
    · subst h0
      have hfin := Lib.hid (digs_trim HD.out (k := 0) (by omega) hz.out (.inl rfl))
      go_wp2
      go_loopw [4, 5] (fun s i wr => s = .slice none 0 0 ∧ i = .int .i64 0 ∧ wr = w) (fun _ _ _ => 0)
      case atStart => exact ⟨rfl, rfl, rfl⟩
      case round =>
        obtain ⟨rfl, rfl, rfl⟩ := hrel
        go_wp2
        go_ret
        exact ⟨_, rfl, by rw [hfin.out]; simp; exact Row.nil _, Since.refl _⟩
    · obtain ⟨j, rfl⟩ : ∃ j, k = j + 1 := ⟨k - 1, by omega⟩
      have hj : j < ds.length := by omega
      obtain ⟨b, o, rfl, hcc⟩ := HC.out (by omega)
      have hcell := hcc j hj
      obtain ⟨d, hdd⟩ : ∃ d, d = ds.getD j 0 := ⟨_, rfl⟩
      rw [← hdd] at hcell
      by_cases hdz : d = 0
      · subst hdz
        have HDD := Lib.hid hdd
        clear hcc hdd h0
        go_wp2
        go_round
        case rel => exact ⟨j, by omega, rfl, fun i h1 h2 => by
          by_cases e : i = j
          · subst e; exact HDD.out.symm
          · exact hz.out i (by omega) h2⟩
        case measure => simp [intOf]
      · have hdb : ((d : Int) == 0) = false := by simp; omega
        have hfin := Lib.hid (digs_trim HD.out (k := j + 1) (by omega) hz.out (.inr (by rw [Nat.add_sub_cancel, ← hdd]; exact hdz)))
        have HCC := Lib.hid hcc
        clear hcc hdd h0 hdz
        go_wp2
        clear hcell
        go_loopw [4, 5] (fun s i wr => ∃ k : Nat, k ≤ j + 1 ∧ i = .int .i64 k ∧ wr.ownsRow w.heap.size 88 1 s k (u32s (ds.take k)) ∧ Since w wr) (fun _ i _ => j + 1 - (intOf i).toNat)
        case atStart => exact ⟨0, by omega, rfl, World.ownsRow_nil _ _ _ _, Since.refl _⟩
        case round =>
          obtain ⟨k, hk2, rfl, hown, hw⟩ := hrel
          by_cases hlt : k < j + 1
          · have hkd : k < ds.length := by omega
            have hcell := (Below.cell hw (World.block_lt_of_cell? _ _ (HCC.out k hkd))).trans (HCC.out k hkd)
            obtain ⟨x, hx⟩ : ∃ x, x = ds.getD k 0 := ⟨_, rfl⟩
            rw [← hx] at hcell
            have HX := Lib.hid hx
            clear hx
            go_wp2_with (first
              | (at_builtin; refine wpList_append_own _ rfl _ _ 22 rfl w.heap.size 88 i0 (.int .u32 0) 1 4 Tryz.underlying22 hi hz0 hz1 hz2 rfl (by decide) _ _ _ rfl (hown.alloc _) ⟨wr.heap.size, 0, none⟩ 1 1 [.int .u32 (x : Int)] rfl rfl ?c1 ?c2 ?c3 ?c4 ?c5 ?_))
            case c1 =>
              intro j u hj
              match j, hj with
              | 0, hj => simp at hj; subst hj; simp [Addr.add]
            case c2 => intro u hu; simp at hu; subst hu; rfl
            case c3 => unfold maxLen; omega
            case c4 => omega
            case c5 => have := hw.size; simp; omega
            intro v' w1 hown' hgrow _
            have hs1 : Since w w1 := Below.grown (hw.alloc _) hgrow (by have := hw.size; simp; omega) (fun g hg => (hown.lt g hg).1)
            have ho1 := own_more hkd (HX.out ▸ hown')
            clear hown' hgrow hown hcell
            go_wp2
            go_roundw
            case rel => exact ⟨k + 1, by omega, by go_num, ho1, hs1⟩
            case measure => simp [intOf]; omega
          · obtain rfl : k = j + 1 := by omega
            go_wp2
            go_ret
            exact ⟨_, rfl, by rw [hfin.out]; exact Row.own (isDig_take HD.out _) hown, hw⟩
end Go.Proofs.YtbbemgeinlehmaaGreatDoor.Ref02

namespace Go.Proofs.YtbbemgeinlehmaaGreatDoor
open Go.RowKit
set_option linter.unusedVariables false
open Go.Proofs.YtbbemgeinlehmaaGreatDoor.Dig

/-- block b holds just these digits, and may be written -/
def Blk (w : World) (b : Nat) (ds : List Nat) : Prop := IsDig ds ∧ w.rowIs b 88 ds.length (fun i => .int .u32 ((ds.getD i 0 : Nat) : Int))
theorem Blk.dig {w : World} {b : Nat} {ds : List Nat} (h : Blk w b ds) : IsDig ds := h.1
theorem Blk.lt {w : World} {b : Nat} {ds : List Nat} (h : Blk w b ds) : b < w.heap.size := h.2.lt
theorem Blk.cell {w : World} {b i : Nat} {ds : List Nat} (h : Blk w b ds) (hi : i < ds.length) : w.cell? ⟨b, i, none⟩ = some (.int .u32 ((ds.getD i 0 : Nat) : Int)) := h.2.cell hi
theorem Blk.frozen {w : World} {b : Nat} {ds : List Nat} (h : Blk w b ds) (i : Nat) : w.frozen? ⟨b, i, none⟩ = false := h.2.frozen i
theorem Blk.set {w : World} {b i d : Nat} {ds : List Nat} (h : Blk w b ds) (hi : i < ds.length) (hd : d < 4294967296) : Blk (w.setCell ⟨b, i, none⟩ (.int .u32 (d : Int))) b (ds.set i d) := by
  refine ⟨isDig_set h.1 hd, ?_⟩
  rw [List.length_set]
  refine (h.2.set i _).congr fun j hj => ?_
  by_cases e : j = i
  · subst e; rw [if_pos rfl, getD_set_self hi]
  · rw [if_neg e, getD_set_other (Ne.symm e)]
theorem Blk.setOther {w : World} {b : Nat} {ds : List Nat} (h : Blk w b ds) {a : Addr} (ha : b ≠ a.block) (u : Value) : Blk (w.setCell a u) b ds := ⟨h.1, h.2.setOther ha u⟩
theorem Blk.alloc {w : World} {b : Nat} {ds : List Nat} (h : Blk w b ds) (o : Obj) : Blk (w.alloc o) b ds := ⟨h.1, h.2.alloc o⟩
theorem Blk.drewN {w : World} {b : Nat} {ds : List Nat} (h : Blk w b ds) (n : Nat) : Blk (w.drewN n) b ds := h
theorem Blk.drew {w : World} {b : Nat} {ds : List Nat} (h : Blk w b ds) : Blk w.drew b ds := h
theorem Blk.grown {w w' : World} {b : Nat} {ds : List Nat} {row : Option Nat} (h : Blk w b ds) (k : w.grownBy w' row) (hb : some b ≠ row) : Blk w' b ds := ⟨h.1, h.2.of_block (k.block b h.lt hb)⟩
theorem Blk.since {w w' : World} {b : Nat} {ds : List Nat} (h : Blk w b ds) (k : Since w w') : Blk w' b ds := ⟨h.1, h.2.of_block (k.block b h.lt)⟩
theorem Blk.row {w : World} {b o n c : Nat} {ds : List Nat} (h : Blk w b ds) (hl : o + n ≤ ds.length) (hc : n ≤ c) : Row w (.slice (some ⟨b, o, none⟩) n c) ((ds.drop o).take n) := by
  have e : ((ds.drop o).take n).length = n := by simp; omega
  refine ⟨isDig_take (isDig_drop h.1 o) n, some ⟨b, o, none⟩, c, by rw [e], fun _ => ⟨b, o, rfl, fun i hi => ?_⟩, by rw [e]; exact hc⟩
  rw [e] at hi
  rw [h.cell (by omega), drop_take_getD hi]
theorem Blk.row_all {w : World} {b n c : Nat} {ds : List Nat} (h : Blk w b ds) (hl : ds.length = n) (hc : n ≤ c) : Row w (.slice (some ⟨b, 0, none⟩) n c) ds := by
  subst hl
  have := h.row (o := 0) (n := ds.length) (c := c) (by omega) hc
  rwa [List.drop_zero, List.take_length] at this
theorem Blk.made (w : World) (n : Nat) : Blk (w.alloc (.cells (madeCells #[.int .u32 0] n) 88)) w.heap.size (List.replicate n 0) := by
  refine ⟨isDig_noughts n, ?_⟩
  rw [List.length_replicate]
  refine (World.rowIs_made w (.int .u32 0) n 88).congr fun i hi => ?_
  simp [List.getD, hi]
theorem since_made (w : World) (c : Array Value) (e : TypeId) : Since w (w.alloc (.cells c e)) := (Since.refl w).alloc _

/-- the make of n digits, at every world -/
theorem make_digits (n : Nat) (hn : n ≤ 1000000) (W : World) : (Instr.makeSlice 22 (.int .i64 (n : Int)) (.int .i64 (n : Int))).run Tryz.prog W = .ok (.slice (some ⟨W.heap.size, 0, none⟩) n n) (W.alloc (.cells (madeCells #[.int .u32 0] n) 88)) := by
  obtain ⟨i0, hi, hz0, hz1, hz2⟩ := info_parts Ref02.info_u32
  have h := run_make (P := Tryz.prog) W 22 88 i0 (.int .u32 0) Tryz.underlying22 hi hz0 .i64 .i64 n n (by omega) (by omega) (by rw [hz2]; omega) (by omega)
  rw [hz1] at h
  simpa [Value.cells] using h

/-- a slice that does not lie in block g -/
def Far (g : Nat) (v : Value) : Prop := ∀ b o n c, v = .slice (some ⟨b, o, none⟩) n c → 0 < n → b ≠ g
theorem Far.of {g : Nat} {w : World} {v : Value} {ds : List Nat} (h : Row w v ds) (hg : w.heap.size ≤ g) : Far g v := by
  rintro b o n c rfl hn rfl
  obtain ⟨_, A, c', e, hc, _⟩ := h
  injection e with e1 e2 e3
  obtain ⟨b', o', e4, hcc⟩ := hc (by omega)
  rw [e4] at e1
  injection e1 with e1
  injection e1 with e1
  have := World.block_lt_of_cell? _ _ (hcc 0 (by omega))
  simp at this
  omega
theorem Far.blk {g b o n c : Nat} (h : b ≠ g) : Far g (.slice (some ⟨b, o, none⟩) n c) := by
  rintro b' o' n' c' e _ rfl
  injection e with e1
  injection e1 with e1
  injection e1 with e1
  exact h e1
theorem Row.grown {w w' : World} {v : Value} {ds : List Nat} {g : Nat} (h : Row w v ds) (hf : Far g v) (k : w.grownBy w' (some g)) : Row w' v ds := by
  obtain ⟨h1, A, c, rfl, h3, h6⟩ := h
  refine ⟨h1, A, c, rfl, fun hl => ?_, h6⟩
  obtain ⟨b, o, rfl, h5⟩ := h3 hl
  have hb := hf b o _ _ rfl hl
  exact ⟨b, o, rfl, fun i hi => (World.cell?_of_block (w := w) (k.block b (World.block_lt_of_cell? _ _ (h5 i hi)) (fun e => hb (by injection e)))).trans (h5 i hi)⟩

/-! only block g has turned, and what is new -/
theorem only_refl (w : World) (g : Nat) : w.grownBy w (some g) := World.grownBy.refl w _
theorem only_trans {a b c : World} {g : Nat} (h : a.grownBy b (some g)) (k : b.grownBy c (some g)) : a.grownBy c (some g) :=
  ⟨k.os.trans h.os, k.tape.trans h.tape, k.output.trans h.output, Nat.le_trans h.size k.size, fun i hi hn => (k.block i (Nat.lt_of_lt_of_le hi h.size) hn).trans (h.block i hi hn)⟩
theorem only_drewN {a w : World} {g : Nat} (h : a.grownBy w (some g)) (n : Nat) : a.grownBy (w.drewN n) (some g) := ⟨h.os, h.tape, h.output, h.size, h.block⟩
theorem only_drew {a w : World} {g : Nat} (h : a.grownBy w (some g)) : a.grownBy w.drew (some g) := ⟨h.os, h.tape, h.output, h.size, h.block⟩
theorem only_set {a w : World} {g i : Nat} (h : a.grownBy w (some g)) (u : Value) : a.grownBy (w.setCell ⟨g, i, none⟩ u) (some g) :=
  ⟨h.os, h.tape, h.output, by simpa [World.setCell] using h.size, fun k hk hne => (Below.heap_setCell w ⟨g, i, none⟩ u k (fun e => hne (by rw [e]))).trans (h.block k hk hne)⟩
theorem only_since {a w w' : World} {g : Nat} (h : Since a w) (k : w.grownBy w' (some g)) (hg : a.heap.size ≤ g) : Since a w' :=
  Below.grown h k h.size (fun j hj => by injection hj with hj; omega)
theorem only_of_since {w w' : World} {g : Nat} (h : Since w w') : w.grownBy w' (some g) := ⟨h.os, h.tape, h.output, h.size, fun i hi _ => h.block i hi⟩
theorem Row.at_ {w : World} {b o n c k : Nat} {ds : List Nat} (h : Row w (.slice (some ⟨b, o, none⟩) n c) ds) (hk : k < n) : w.cell? ⟨b, o + k, none⟩ = some (.int .u32 ((ds.getD k 0 : Nat) : Int)) := by
  obtain ⟨_, A, c', e, hc, _⟩ := h
  injection e with e1 e2 e3
  obtain ⟨b', o', e4, hcc⟩ := hc (by omega)
  rw [e4] at e1
  injection e1 with e1
  injection e1 with e1 e5
  subst e1 e5
  exact hcc k (by omega)
theorem cell_grown {W W' : World} {a : Addr} {v : Value} {g : Nat} (h : W.cell? a = some v) (k : W.grownBy W' (some g)) (hne : a.block ≠ g) : W'.cell? a = some v :=
  (World.cell?_of_block (w := W) (k.block a.block (World.block_lt_of_cell? _ _ h) (fun e => hne (by injection e)))).trans h
theorem cell_far {W : World} {a : Addr} {v : Value} {g k : Nat} (h : W.cell? a = some v) (hne : a.block ≠ g) (u : Value) : (W.setCell ⟨g, k, none⟩ u).cell? a = some v :=
  (World.cell?_setCell_other W ⟨g, k, none⟩ a u (fun e => hne (by rw [← e]))).trans h
end Go.Proofs.YtbbemgeinlehmaaGreatDoor

namespace Go.Proofs.YtbbemgeinlehmaaGreatDoor.Bits
open Go.RowKit
set_option linter.unusedVariables false
open Go.Proofs.YtbbemgeinlehmaaGreatDoor.Dig

theorem ret_two {k : IntKind} {a b c d : Int} (h : a = c) (h2 : b = d) : Ending.returned (.tuple #[.int k a, .int k b]) = .returned (.tuple #[.int k c, .int k d]) := by rw [h, h2]
/-- two 32-bit numbers, handed back -/
def Two (s t : Nat) (w : World) (e : Ending) (w' : World) : Prop := e = .returned (.tuple #[.int .u32 (s : Int), .int .u32 (t : Int)]) ∧ w = w'

theorem add32 (x y c s t : Nat) (w : World) (hx : x < 4294967296) (hy : y < 4294967296) (hc : c < 4294967296) (hs : s = (x + y + c) % 4294967296) (ht : t = (x + y + c) / 4294967296) :
    Calls Tryz.prog 93 #[.int .u32 (x : Int), .int .u32 (y : Int), .int .u32 (c : Int)] w (Two s t w) := by
  have H := Lib.hid (And.intro hs ht)
  clear hs ht
  go_enter Tryz.func93, Tryz.ntmps93
  go_wp2
  go_ret2
  have h := H.out
  exact ⟨ret_two (by omega) (by omega), rfl⟩
theorem add32z (x y s t : Nat) (w : World) (hx : x < 4294967296) (hy : y < 4294967296) (hs : s = (x + y) % 4294967296) (ht : t = (x + y) / 4294967296) :
    Calls Tryz.prog 93 #[.int .u32 (x : Int), .int .u32 (y : Int), .int .u32 0] w (Two s t w) := add32 x y 0 s t w hx hy (by omega) hs ht
theorem add32zz (x s t : Nat) (w : World) (hx : x < 4294967296) (hs : s = x % 4294967296) (ht : t = x / 4294967296) :
    Calls Tryz.prog 93 #[.int .u32 (x : Int), .int .u32 0, .int .u32 0] w (Two s t w) := add32 x 0 0 s t w hx (by omega) (by omega) hs ht
theorem add32m (x c s t : Nat) (w : World) (hx : x < 4294967296) (hy : c < 4294967296) (hs : s = (x + c) % 4294967296) (ht : t = (x + c) / 4294967296) :
    Calls Tryz.prog 93 #[.int .u32 (x : Int), .int .u32 0, .int .u32 (c : Int)] w (Two s t w) := add32 x 0 c s t w hx (by omega) hy (by omega) (by omega)

theorem mul32 (x y h l : Nat) (w : World) (hx : x < 4294967296) (hy : y < 4294967296) (hh : h = x * y / 4294967296) (hl : l = x * y % 4294967296) :
    Calls Tryz.prog 127 #[.int .u32 (x : Int), .int .u32 (y : Int)] w (Two h l w) := by
  obtain ⟨q, hq⟩ : ∃ q : Nat, q = x * y := ⟨_, rfl⟩
  have hfit : x * y ≤ 4294967295 * 4294967295 := Nat.mul_le_mul (by omega) (by omega)
  rw [← hq] at hfit hh hl
  have hq2 : (x : Int) * (y : Int) = (q : Int) := by rw [hq]; simp
  have H := Lib.hid (And.intro hh hl)
  clear hq hh hl
  go_enter Tryz.func127, Tryz.ntmps127
  go_wp2
  go_ret2
  have h := H.out
  exact ⟨ret_two (by omega) (by omega), rfl⟩
/-- x times y and two digits more -/
theorem times_plus (x y a b h l : Nat) (w : World) (hx : x < 4294967296) (hy : y < 4294967296) (ha : a < 4294967296) (hb : b < 4294967296) (hh : h = (x * y + a + b) / 4294967296) (hl : l = (x * y + a + b) % 4294967296) :
    Calls Tryz.prog 119 #[.int .u32 (x : Int), .int .u32 (y : Int), .int .u32 (a : Int), .int .u32 (b : Int)] w (Two h l w) := by
  obtain ⟨q, hq⟩ : ∃ q : Nat, q = x * y := ⟨_, rfl⟩
  have hfit : x * y ≤ 4294967295 * 4294967295 := Nat.mul_le_mul (by omega) (by omega)
  obtain ⟨g, hg⟩ : ∃ h : Nat, h = x * y / 4294967296 := ⟨_, rfl⟩
  obtain ⟨m, hm⟩ : ∃ h : Nat, h = x * y % 4294967296 := ⟨_, rfl⟩
  have HM := Lib.hid fun W => mul32 x y g m W hx hy hg hm
  rw [← hq] at hfit hg hm hh hl
  obtain ⟨s1, hs1⟩ : ∃ s, s = (m + a) % 4294967296 := ⟨_, rfl⟩
  obtain ⟨t1, ht1⟩ : ∃ s, s = (m + a) / 4294967296 := ⟨_, rfl⟩
  obtain ⟨s2, hs2⟩ : ∃ s, s = (s1 + b) % 4294967296 := ⟨_, rfl⟩
  obtain ⟨t2, ht2⟩ : ∃ s, s = (s1 + b) / 4294967296 := ⟨_, rfl⟩
  have H1 := Lib.hid fun W => add32z m a s1 t1 W (by omega) ha hs1 ht1
  have H2 := Lib.hid fun W => add32z s1 b s2 t2 W (by omega) hb hs2 ht2
  have e1 : h = g + t1 + t2 := by omega
  have e2 : l = s2 := by omega
  have b1 : g + t1 < 4294967296 := by omega
  have b2 : g + t1 + t2 < 4294967296 := by omega
  subst e1 e2
  clear hq hh hg hm hs1 ht1 hs2 ht2 hfit
  go_enter Tryz.func119, Tryz.ntmps119
  go_wp2_with (first
    | (go_at_call 127; (with_reducible refine (HM.out _).mono ?_); rintro e w1 ⟨rfl, rfl⟩)
    | (go_at_call 93; (with_reducible refine (H1.out _).mono ?_); rintro e w1 ⟨rfl, rfl⟩)
    | (go_at_call 93; (with_reducible refine (H2.out _).mono ?_); rintro e w1 ⟨rfl, rfl⟩))
  go_ret2
  exact ⟨ret_two (by omega) (by omega), rfl⟩
end Go.Proofs.YtbbemgeinlehmaaGreatDoor.Bits

namespace Go.Proofs.YtbbemgeinlehmaaGreatDoor.Bits
open Go.RowKit
set_option linter.unusedVariables false
open Go.Proofs.YtbbemgeinlehmaaGreatDoor.Dig

theorem sub_bit {x y b : Nat} (hx : x < 4294967296) (hy : y < 4294967296) (hb : b ≤ 1) :
    bits .or .u32 (bits .and .u32 (bits .xor .u32 IntKind.u32.max (x : Int)) (y : Int)) (bits .and .u32 (bits .xor .u32 IntKind.u32.max (bits .xor .u32 (x : Int) (y : Int))) (((x : Int) - (y : Int) - (b : Int)) % 4294967296)) / 2147483648 =
      ((1 - (4294967296 + x - y - b) / 4294967296 : Nat) : Int) := by
  obtain ⟨d, hd⟩ : ∃ d, d = (4294967296 + x - y - b) % 4294967296 := ⟨_, rfl⟩
  have ed : ((x : Int) - (y : Int) - (b : Int)) % 4294967296 = (d : Int) := by omega
  have em : IntKind.u32.max = ((4294967295 : Nat) : Int) := rfl
  have hd1 : d < 4294967296 := by omega
  have a1 : x ^^^ y < 4294967296 := Nat.xor_lt_two_pow (n := 32) hx hy
  have a2 : 4294967295 ^^^ x < 4294967296 := Nat.xor_lt_two_pow (n := 32) (by omega) hx
  have a3 : 4294967295 ^^^ (x ^^^ y) < 4294967296 := Nat.xor_lt_two_pow (n := 32) (by omega) a1
  have a4 : (4294967295 ^^^ x) &&& y < 4294967296 := Nat.and_lt_two_pow (n := 32) _ hy
  have a5 : (4294967295 ^^^ (x ^^^ y)) &&& d < 4294967296 := Nat.and_lt_two_pow (n := 32) _ hd1
  rw [ed, em, u32_xor_nat x y hx hy, u32_xor_nat _ x (by omega) hx, u32_xor_nat _ (x ^^^ y) (by omega) a1, u32_and_nat _ y a2 hy, u32_and_nat _ d a3 hd1, u32_or_nat _ _ a4 a5]
  obtain ⟨N, hN⟩ : ∃ N, N = (4294967295 ^^^ x) &&& y ||| (4294967295 ^^^ (x ^^^ y)) &&& d := ⟨_, rfl⟩
  rw [← hN]
  have e : N / 2147483648 = N >>> 31 := by rw [Nat.shiftRight_eq_div_pow]
  have e2 : N >>> 31 = (1 ^^^ x >>> 31) &&& y >>> 31 ||| (1 ^^^ (x >>> 31 ^^^ y >>> 31)) &&& d >>> 31 := by
    rw [hN]
    simp only [Nat.shiftRight_or_distrib, Nat.shiftRight_and_distrib, Nat.shiftRight_xor_distrib]
    rfl
  have x1 : x >>> 31 = x / 2147483648 := by rw [Nat.shiftRight_eq_div_pow]
  have y1 : y >>> 31 = y / 2147483648 := by rw [Nat.shiftRight_eq_div_pow]
  have d1 : d >>> 31 = d / 2147483648 := by rw [Nat.shiftRight_eq_div_pow]
  rw [e2] at e
  generalize x >>> 31 = xt at *
  generalize y >>> 31 = yt at *
  generalize d >>> 31 = dt at *
  have hxt : xt = 0 ∨ xt = 1 := by omega
  have hyt : yt = 0 ∨ yt = 1 := by omega
  have hdt : dt = 0 ∨ dt = 1 := by omega
  clear hN e2
  rcases hxt with rfl | rfl <;> rcases hyt with rfl | rfl <;> rcases hdt with rfl | rfl <;> simp at e <;> omega
theorem sub32 (x y b s t : Nat) (w : World) (hx : x < 4294967296) (hy : y < 4294967296) (hb : b ≤ 1) (hs : s = (4294967296 + x - y - b) % 4294967296) (ht : t = 1 - (4294967296 + x - y - b) / 4294967296) :
    Calls Tryz.prog 109 #[.int .u32 (x : Int), .int .u32 (y : Int), .int .u32 (b : Int)] w (Two s t w) := by
  have H := Lib.hid (And.intro hs ht)
  clear hs ht
  go_enter Tryz.func109, Tryz.ntmps109
  go_wp2
  go_ret2
  have h := H.out
  exact ⟨ret_two (by omega) (by rw [sub_bit hx hy hb, h.2]), rfl⟩
theorem sub32m (x b s t : Nat) (w : World) (hx : x < 4294967296) (hb : b ≤ 1) (hs : s = (4294967296 + x - b) % 4294967296) (ht : t = 1 - (4294967296 + x - b) / 4294967296) :
    Calls Tryz.prog 109 #[.int .u32 (x : Int), .int .u32 0, .int .u32 (b : Int)] w (Two s t w) := sub32 x 0 b s t w hx (by omega) hb (by omega) (by omega)
theorem div32 (x y d q r : Nat) (w : World) (hy : y < 4294967296) (hd : d < 4294967296) (hxd : x < d) (hq : q = (x * 4294967296 + y) / d) (hr : r = (x * 4294967296 + y) % d) :
    Calls Tryz.prog 114 #[.int .u32 (x : Int), .int .u32 (y : Int), .int .u32 (d : Int)] w (fun e w' => e = .returned (.tuple #[.int .u32 (q : Int), .int .u32 (r : Int)]) ∧ ∃ n, w' = w.drewN n) := by
  have hq1 : q < 4294967296 := by
    rw [hq, Nat.div_lt_iff_lt_mul (by omega)]
    have : (x + 1) * 4294967296 ≤ d * 4294967296 := Nat.mul_le_mul_right _ hxd
    omega
  have hr1 : r < d := by rw [hr]; exact Nat.mod_lt _ (by omega)
  obtain ⟨n, hn⟩ : ∃ n, n = x * 4294967296 + y := ⟨_, rfl⟩
  rw [← hn] at hq hr
  have H := Lib.hid (And.intro hq hr)
  have hc : bits .or .u64 ((x : Int) * 4294967296) (y : Int) = (n : Int) := by
    have := u64_or_nat (x * 4294967296) y (by omega) (by omega)
    rw [nat_join 32 _ _ (by omega) (by omega), ← hn] at this
    rw [← this]; simp
  have hn2 : n < 18446744073709551616 := by omega
  have hdd : decide ((d : Int) ≤ (x : Int)) = false := by simp; omega
  clear hq hr hn
  go_enter Tryz.func114, Tryz.ntmps114
  go_wp2
  go_quiet (fail)
  go_wp2
  go_ret2
  have h := H.out
  have e1 : (n : Int) / (d : Int) = (q : Int) := by rw [h.1]; simp
  have e2 : (n : Int) % (d : Int) = (r : Int) := by rw [h.2]; simp
  refine ⟨ret_two ?_ ?_, ⟨_, rfl⟩⟩
  · rw [e1, IntWalk.u64_in _ (by omega)]; omega
  · rw [e2]; omega
end Go.Proofs.YtbbemgeinlehmaaGreatDoor.Bits
