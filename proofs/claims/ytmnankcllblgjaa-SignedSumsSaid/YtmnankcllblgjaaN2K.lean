/- Long division by guessed digits: how far a guess can be off. No Go in sight. -/
import Derived.Test.YtmnankcllblgjaaNatSpec
namespace Go.Proofs.Ytmnankcllblgjaa.Dig

/-- the guess of a digit of a quotient, by the three highest digits of what is left and the two highest of the divisor -/
def estQ (r2 r1 r0 f s : Nat) : Nat :=
  if f ≤ r2 then 4294967295
  else if (r2 * 4294967296 + r1) % f * 4294967296 + r0 < (r2 * 4294967296 + r1) / f * s then (r2 * 4294967296 + r1) / f - 1 else (r2 * 4294967296 + r1) / f

/-- a guess that is not too small for the two highest digits is at most two too great -/
theorem guess_high {P f g U V q d : Nat} (hU : g * P * 4294967296 ≤ U) (hV : V < (f + 1) * (P * 4294967296)) (hd : d * f ≤ g) (hd2 : d < 4294967296) (hf : 4294967296 ≤ 2 * f) (hq : U < (q + 1) * V) : d ≤ q + 2 := by
  rcases Nat.lt_or_ge (q + 2) d with h | h
  · exfalso
    obtain ⟨e, rfl⟩ : ∃ e, d = q + 3 + e := ⟨d - (q + 3), by omega⟩
    have h1 : (q + 1) * V ≤ (q + 1 + e) * V := Nat.mul_le_mul_right _ (by omega)
    have h2 : (q + 1 + e) * V ≤ (q + 1 + e) * ((f + 1) * (P * 4294967296)) := Nat.mul_le_mul_left _ (Nat.le_of_lt hV)
    have h3 : (q + 1 + e) * (f + 1) ≤ (q + 3 + e) * f := by
      have : (q + 3 + e) * f = (q + 1 + e) * f + 2 * f := by grind
      have : (q + 1 + e) * (f + 1) = (q + 1 + e) * f + (q + 1 + e) := by grind
      omega
    have h4 : (q + 1 + e) * (f + 1) * (P * 4294967296) ≤ g * (P * 4294967296) := Nat.mul_le_mul_right _ (Nat.le_trans h3 hd)
    have h5 : (q + 1 + e) * ((f + 1) * (P * 4294967296)) = (q + 1 + e) * (f + 1) * (P * 4294967296) := by grind
    have h6 : g * P * 4294967296 = g * (P * 4294967296) := by grind
    omega
  · exact h
/-- it is not too small -/
theorem guess_low {P f g U V q : Nat} (hU : U < (g + 1) * (P * 4294967296)) (hV : f * (P * 4294967296) ≤ V) (hq : q * V ≤ U) : q * f ≤ g := by
  have h1 : q * (f * (P * 4294967296)) ≤ q * V := Nat.mul_le_mul_left _ hV
  have h2 : q * f * (P * 4294967296) < (g + 1) * (P * 4294967296) := by
    have : q * (f * (P * 4294967296)) = q * f * (P * 4294967296) := by grind
    omega
  have := Nat.lt_of_mul_lt_mul_right h2
  omega
theorem mulB {d f s g l r : Nat} (hdm : f * d + l = g) (h : l * 4294967296 + r < d * s) : g * 4294967296 + r + 1 ≤ d * (f * 4294967296 + s) := by
  have : d * (f * 4294967296 + s) = f * d * 4294967296 + d * s := by grind
  omega
theorem mulB2 {d f s g l r : Nat} (hdm : f * d + l = g) (h : d * s ≤ l * 4294967296 + r) : d * (f * 4294967296 + s) ≤ g * 4294967296 + r := by
  have : d * (f * 4294967296 + s) = f * d * 4294967296 + d * s := by grind
  omega
theorem last_step {X1 X2 X3 X4 X5 X6 X7 U u' V P : Nat} (h2 : X4 ≤ X5) (h4 : X7 = X4 + X6) (h5 : X3 ≤ X7) (h6 : X3 = X2 + V) (h7 : X6 ≤ 4294967296 * P) (h8 : P * 4294967296 ≤ X1) (hVf : X1 ≤ V) (hq2 : U < X2) (hU : U = X5 + u') : False := by omega
theorem estQ_lt (r2 r1 r0 f s : Nat) (h1 : r1 < 4294967296) (hf : 0 < f) : estQ r2 r1 r0 f s < 4294967296 := by
  unfold estQ
  split
  · omega
  · rename_i h
    have : (r2 * 4294967296 + r1) / f < 4294967296 := by
      rw [Nat.div_lt_iff_lt_mul hf]
      have : (r2 + 1) * 4294967296 ≤ f * 4294967296 := Nat.mul_le_mul_right _ (by omega)
      omega
    split <;> omega
set_option maxRecDepth 100000 in
theorem estQ_ok {P v' u' r2 r1 r0 f s U V : Nat} (hV : V = (f * 4294967296 + s) * P + v') (hv : v' < P) (hU : U = ((r2 * 4294967296 + r1) * 4294967296 + r0) * P + u') (hu : u' < P)
    (hs : s < 4294967296) (h0 : r0 < 4294967296) (h1 : r1 < 4294967296) (hf : 4294967296 ≤ 2 * f) (hlt : U < V * 4294967296) : U / V ≤ estQ r2 r1 r0 f s ∧ estQ r2 r1 r0 f s ≤ U / V + 1 := by
  have hVf : f * (P * 4294967296) ≤ V := by
    have : f * (P * 4294967296) = f * 4294967296 * P := by grind
    have : (f * 4294967296 + s) * P = f * 4294967296 * P + s * P := by grind
    omega
  have hP : 0 < P := by omega
  have hVpos : 0 < V := by
    have : 0 < f * (P * 4294967296) := Nat.mul_pos (by omega) (by omega)
    omega
  have hVf2 : V < (f + 1) * (P * 4294967296) := by
    have a : (f + 1) * (P * 4294967296) = f * 4294967296 * P + 4294967296 * P := by grind
    have b : (f * 4294967296 + s) * P = f * 4294967296 * P + s * P := by grind
    have c : (s + 1) * P ≤ 4294967296 * P := Nat.mul_le_mul_right _ (by omega)
    have d : (s + 1) * P = s * P + P := by grind
    omega
  have hq1 : U / V * V ≤ U := Nat.div_mul_le_self U V
  have hq2 : U < (U / V + 1) * V := by
    have := Nat.lt_div_mul_add hVpos (a := U)
    have e : (U / V + 1) * V = U / V * V + V := by grind
    omega
  have hqB : U / V < 4294967296 := by rw [Nat.div_lt_iff_lt_mul hVpos, Nat.mul_comm]; exact hlt
  generalize U / V = q at *
  have hUg : U < (r2 * 4294967296 + r1 + 1) * (P * 4294967296) := by
    have a : (r2 * 4294967296 + r1 + 1) * (P * 4294967296) = (r2 * 4294967296 + r1) * 4294967296 * P + 4294967296 * P := by grind
    have b : ((r2 * 4294967296 + r1) * 4294967296 + r0) * P = (r2 * 4294967296 + r1) * 4294967296 * P + r0 * P := by grind
    have c : (r0 + 1) * P ≤ 4294967296 * P := Nat.mul_le_mul_right _ (by omega)
    have d : (r0 + 1) * P = r0 * P + P := by grind
    omega
  have hUg2 : (r2 * 4294967296 + r1) * P * 4294967296 ≤ U := by
    have b : ((r2 * 4294967296 + r1) * 4294967296 + r0) * P = (r2 * 4294967296 + r1) * P * 4294967296 + r0 * P := by grind
    omega
  have hlow := guess_low hUg hVf hq1
  unfold estQ
  split
  · rename_i hr
    refine ⟨by omega, ?_⟩
    -- the highest digit is the divisor's
    have hd : 4294967295 * f ≤ r2 * 4294967296 + r1 := by omega
    have hr2 : r2 ≤ f := by
      rcases Nat.lt_or_ge f r2 with h | h
      · exfalso
        have a : (f + 1) * 4294967296 ≤ r2 * 4294967296 := Nat.mul_le_mul_right _ h
        have b : (f + 1) * 4294967296 * (P * 4294967296) ≤ (r2 * 4294967296 + r1) * (P * 4294967296) := Nat.mul_le_mul_right _ (Nat.le_trans a (Nat.le_add_right _ _))
        have c : V * 4294967296 < (f + 1) * (P * 4294967296) * 4294967296 := Nat.mul_lt_mul_of_pos_right hVf2 (by omega)
        have d : (f + 1) * (P * 4294967296) * 4294967296 = (f + 1) * 4294967296 * (P * 4294967296) := by grind
        have e : (r2 * 4294967296 + r1) * (P * 4294967296) = (r2 * 4294967296 + r1) * P * 4294967296 := by grind
        omega
      · exact h
    rcases Nat.lt_or_ge (q + 1) 4294967295 with h | h
    · -- a guess of one less than the base would be two too great: its sharper bound
      exfalso
      have h1 : (q + 1) * V ≤ 4294967294 * V := Nat.mul_le_mul_right _ (by omega)
      have h2 : 4294967294 * V < 4294967294 * ((f + 1) * (P * 4294967296)) := Nat.mul_lt_mul_of_pos_left hVf2 (by omega)
      have h3 : 4294967294 * (f + 1) ≤ r2 * 4294967296 + r1 := by omega
      have h4 : 4294967294 * (f + 1) * (P * 4294967296) ≤ (r2 * 4294967296 + r1) * (P * 4294967296) := Nat.mul_le_mul_right _ h3
      have e : (r2 * 4294967296 + r1) * (P * 4294967296) = (r2 * 4294967296 + r1) * P * 4294967296 := by grind
      have e2 : 4294967294 * ((f + 1) * (P * 4294967296)) = 4294967294 * (f + 1) * (P * 4294967296) := by grind
      omega
    · omega
  · rename_i hr
    have hfpos : 0 < f := by omega
    have hdm := Nat.div_add_mod (r2 * 4294967296 + r1) f
    have hdB : (r2 * 4294967296 + r1) / f < 4294967296 := by
      rw [Nat.div_lt_iff_lt_mul hfpos]
      have : (r2 + 1) * 4294967296 ≤ f * 4294967296 := Nat.mul_le_mul_right _ (by omega)
      omega
    have hle : q ≤ (r2 * 4294967296 + r1) / f := by rw [Nat.le_div_iff_mul_le hfpos]; exact hlow
    generalize (r2 * 4294967296 + r1) / f = d at *
    generalize (r2 * 4294967296 + r1) % f = l at *
    have hd2 : d ≤ q + 2 := guess_high hUg2 hVf2 (by rw [Nat.mul_comm]; omega) hdB hf hq2
    split
    · rename_i ht
      refine ⟨?_, by omega⟩
      -- the guess times the two highest digits is more than the three highest digits
      rcases Nat.lt_or_ge q d with h | h
      · omega
      · exfalso
        have e1 : d = q := by omega
        subst e1
        have h1 : (r2 * 4294967296 + r1) * 4294967296 + r0 + 1 ≤ d * (f * 4294967296 + s) := mulB hdm ht
        have h2 : ((r2 * 4294967296 + r1) * 4294967296 + r0 + 1) * P ≤ d * (f * 4294967296 + s) * P := Nat.mul_le_mul_right _ h1
        have h3 : ((r2 * 4294967296 + r1) * 4294967296 + r0 + 1) * P = ((r2 * 4294967296 + r1) * 4294967296 + r0) * P + P := by grind
        have h4 : d * V = d * (f * 4294967296 + s) * P + d * v' := by rw [hV]; grind
        omega
    · rename_i ht
      refine ⟨hle, ?_⟩
      rcases Nat.lt_or_ge (q + 1) d with h | h
      · exfalso
        have h1 : d * (f * 4294967296 + s) ≤ (r2 * 4294967296 + r1) * 4294967296 + r0 := mulB2 hdm (Nat.le_of_not_lt ht)
        have h2 : d * (f * 4294967296 + s) * P ≤ ((r2 * 4294967296 + r1) * 4294967296 + r0) * P := Nat.mul_le_mul_right _ h1
        have h4 : d * V = d * (f * 4294967296 + s) * P + d * v' := by rw [hV]; grind
        have h5 : (q + 2) * V ≤ d * V := Nat.mul_le_mul_right _ h
        have h6 : (q + 2) * V = (q + 1) * V + V := by grind
        have h7 : d * v' ≤ 4294967296 * P := Nat.mul_le_mul (by omega) (by omega)
        have h8 : P * 4294967296 ≤ f * (P * 4294967296) := Nat.le_mul_of_pos_left _ hfpos
        exact last_step h2 h4 h5 h6 h7 h8 hVf hq2 hU
      · exact h

end Go.Proofs.Ytmnankcllblgjaa.Dig
