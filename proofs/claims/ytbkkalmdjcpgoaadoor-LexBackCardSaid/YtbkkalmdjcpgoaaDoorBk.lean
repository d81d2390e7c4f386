/- A quotient times the divisor, and what is left, is the number: in layer 3's words. No code is spoken of. -/
import Derived.Test.YtbkkalmdjcpgoaaDoorZV
namespace Go.Proofs.YtbkkalmdjcpgoaaDoor.Bk
open Go.RowKit
set_option linter.unusedVariables false
open Go.Proofs.YtbkkalmdjcpgoaaDoor.Dig
open Go.Proofs.YtbkkalmdjcpgoaaDoor.Ref03

theorem sval_mag (n : Int) : sval (ngB n) (mag n) = n := by
  unfold sval ngB mag
  rw [num_digs]
  by_cases h : n < 0 <;> simp [h] <;> omega
theorem right_mag {n : Int} (h : (mag n).length ≤ 256) : srightB (ngB n) (mag n) = true := by
  unfold srightB
  rw [right_of h (norm_digs _)]
  by_cases h0 : n = 0
  · subst h0; rfl
  · have e := mag_len n
    have : (mag n).length ≠ 0 := by
      intro hz; rw [hz] at e; simp [h0] at e
    simp [this]
theorem of_right {na : Bool} {xs : List Nat} (dx : IsDig xs) (r : srightB na xs = true) : ngB (sval na xs) = na ∧ mag (sval na xs) = xs := by
  have e2 : sval na xs = sgn na (num xs) := rfl
  have e := ng_sgn na (num xs)
  rw [digs_num dx (right_norm (sright_right r)).2] at e
  rw [e2, ← e.1, ← e.2]
  refine ⟨?_, rfl⟩
  cases na
  · rfl
  · have := sright_pos r
    have hl : 0 < xs.length := by
      cases xs with
      | nil => simp [num] at this
      | cons a t => simp
    simp [signB, hl]
theorem fmod_form {a b : Bool} {X Y : Nat} (hY : 0 < Y) : ∃ R, R < Y ∧ (sgn a X).fmod (sgn b Y) = sgn b R := by
  have h2 := Nat.mod_lt X hY
  cases hs : (a == b)
  · by_cases hr : X % Y = 0
    · exact ⟨0, hY, by rw [(floor_diff0 (a := a) (b := b) (X := X) hY hs hr).2]; cases b <;> rfl⟩
    · exact ⟨Y - X % Y, by omega, (floor_diff1 (a := a) (b := b) (X := X) hY hs hr).2⟩
  · have hab : a = b := by simpa using hs
    subst hab
    exact ⟨X % Y, h2, (floor_same (b := a) (X := X) hY).2⟩
theorem len_of {n : Nat} {X Y k : Nat} (hx : X < 4294967296 ^ k) (hy : Y < 4294967296 ^ k) (h : n ≤ X + Y) : (digs n).length ≤ k + 1 :=
  digs_len_le (Nat.lt_of_le_of_lt h (sum_lt hx hy))
theorem back_div {na nb : Bool} {xs ys : List Nat} (dx : IsDig xs) (dy : IsDig ys) (r1 : srightB na xs = true) (r2 : srightB nb ys = true) (h0 : ys.length ≠ 0) (lx : xs.length ≤ 30) (ly : ys.length ≤ 30) :
    ∃ n1 s1 n2 s2 n3 s3, divZ na xs nb ys = (((n1, s1), (n2, s2)), 0) ∧ mulZ n1 s1 nb ys = ((n3, s3), 0) ∧ addZ n3 s3 n2 s2 = ((na, xs), 0) ∧ cmpZ false s2 false ys = (-1, 0) ∧ (s2.length ≠ 0 → n2 = nb) ∧ s1.length ≤ 31 ∧ s2.length ≤ 31 ∧ s3.length ≤ 31 := by
  have hY := num_pos (right_norm (sright_right r2)).2 h0
  obtain ⟨k, hk⟩ : ∃ k, k = 30 := ⟨_, rfl⟩
  rw [← hk] at lx ly
  have hx := Nat.lt_of_lt_of_le (num_lt dx) (Nat.pow_le_pow_right (n := 4294967296) (by omega) lx)
  have hy := Nat.lt_of_lt_of_le (num_lt dy) (Nat.pow_le_pow_right (n := 4294967296) (by omega) ly)
  obtain ⟨b1, b2⟩ := div_abs (a := na) (b := nb) (X := num xs) hY
  obtain ⟨R, hR, eR⟩ := fmod_form (a := na) (b := nb) (X := num xs) hY
  have hsum : sgn nb (num ys) * (sgn na (num xs)).fdiv (sgn nb (num ys)) + (sgn na (num xs)).fmod (sgn nb (num ys)) = sgn na (num xs) := by rw [Int.fmod_def]; omega
  obtain ⟨q, hq⟩ : ∃ q, q = (sgn na (num xs)).fdiv (sgn nb (num ys)) := ⟨_, rfl⟩
  obtain ⟨r, hr⟩ : ∃ r, r = (sgn na (num xs)).fmod (sgn nb (num ys)) := ⟨_, rfl⟩
  rw [← hq] at b1 hsum
  rw [← hr] at b2 hsum eR
  have habs : (q * sgn nb (num ys)).natAbs ≤ num xs + num ys := by
    have e : q * sgn nb (num ys) = sgn na (num xs) - sgn nb R := by rw [← eR, Int.mul_comm]; omega
    rw [e]; unfold sgn; split <;> split <;> omega
  have l1 : (mag q).length ≤ k + 1 := len_of hx hy b1
  have l2 : (mag r).length ≤ k + 1 := len_of hx hy b2
  have l3 : (mag (q * sgn nb (num ys))).length ≤ k + 1 := len_of hx hy habs
  have e2 := ng_sgn nb R
  rw [← eR] at e2
  refine ⟨ngB q, mag q, ngB r, mag r, ngB (q * sgn nb (num ys)), mag (q * sgn nb (num ys)), ?_, ?_, ?_, ?_, ?_, by omega, by omega, by omega⟩
  · rw [hq, hr]; exact if_pos ⟨⟨r1, r2⟩, h0⟩
  · rw [mulZ, if_pos ⟨right_mag (by omega), r2⟩, sval_mag, show sval nb ys = sgn nb (num ys) from rfl, fitZ, if_pos (by omega)]
  · rw [addZ, if_pos ⟨right_mag (by omega), right_mag (by omega)⟩, sval_mag, sval_mag]
    have e : q * sgn nb (num ys) + r = sval na xs := by rw [Int.mul_comm]; exact hsum
    obtain ⟨o1, o2⟩ := of_right dx r1
    rw [e, fitZ, o1, o2, if_pos (right_norm (sright_right r1)).1]
  · have g1 : srightB false (mag r) = true := by simp [srightB, right_of (show (mag r).length ≤ 256 by omega) (norm_digs _)]
    have g2 : srightB false ys = true := by simp [srightB, sright_right r2]
    rw [cmpZ, if_pos ⟨g1, g2⟩, if_pos]
    show (num (mag r) : Int) < (num ys : Int)
    rw [← e2.2, num_digs]; omega
  · intro hl
    rw [← e2.1]
    rw [← e2.2] at hl
    simp only [signB]
    rw [decide_eq_true (by omega)]; simp
end Go.Proofs.YtbkkalmdjcpgoaaDoor.Bk
