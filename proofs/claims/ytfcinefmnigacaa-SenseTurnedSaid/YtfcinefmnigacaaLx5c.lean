/- Layer 5 (lex): the plain functions at a place of a text, a step at a time. No Go in sight. -/
import Derived.Test.YtfcinefmnigacaaLx5
namespace Go.Proofs.Ytfcinefmnigacaa.Lx
open Go.Proofs.Ytfcinefmnigacaa.Dig
set_option linter.unusedVariables false
set_option linter.unusedSimpArgs false

/-- the bytes of a text -/
def L (s : ByteArray) : Bs := s.data.toList
theorem L_len (s : ByteArray) : (L s).length = s.size := Array.length_toList
theorem L_drop (s : ByteArray) (i : Nat) (h : i < s.size) : (L s).drop i = s[i] :: (L s).drop (i + 1) := by
  have hl : i < (L s).length := by rw [L_len]; exact h
  rw [List.drop_eq_getElem_cons hl]; rfl
theorem L_end (s : ByteArray) (i : Nat) (h : s.size ≤ i) : (L s).drop i = [] := List.drop_eq_nil_of_le (by rw [L_len]; exact h)
/-- where white space ends; within a comment; where a run of bytes ends -/
def endF (s : ByteArray) (k : Nat) : Nat := k + blk false ((L s).drop k)
def endT (s : ByteArray) (k : Nat) : Nat := k + blk true ((L s).drop k)
def runE (p : UInt8 → Bool) (s : ByteArray) (k : Nat) : Nat := k + run p ((L s).drop k)
theorem endF_end {s : ByteArray} {k : Nat} (h : s.size ≤ k) : endF s k = k := by rw [endF, L_end s k h]; rfl
theorem endT_end {s : ByteArray} {k : Nat} (h : s.size ≤ k) : endT s k = endF s k := by rw [endF, endT, L_end s k h]; rfl
theorem endF_cmt {s : ByteArray} {k : Nat} (h : k < s.size) (h2 : s[k].toNat = 37) : endF s k = endT s k := by
  rw [endF, endT, L_drop s k h]; simp only [blk, h2, if_true, Nat.reduceEqDiff, if_false]
theorem endT_step {s : ByteArray} {k : Nat} (h : k < s.size) (h2 : s[k].toNat ≠ 10) : endT s k = endT s (k + 1) := by
  rw [endT, endT, L_drop s k h]; simp only [blk, if_neg h2]; omega
theorem endT_nl {s : ByteArray} {k : Nat} (h : k < s.size) (h2 : s[k].toNat = 10) : endT s k = endF s k := by
  rw [endF, endT, L_drop s k h]; simp only [blk, if_pos h2, if_neg (show ¬ s[k].toNat = 37 by omega), whiteB]; simp [h2]
theorem endF_white {s : ByteArray} {k : Nat} (h : k < s.size) (h2 : s[k].toNat = 32 ∨ s[k].toNat = 9 ∨ s[k].toNat = 10 ∨ s[k].toNat = 13) : endF s k = endF s (k + 1) := by
  rw [endF, endF, L_drop s k h]; simp only [blk, if_neg (show ¬ s[k].toNat = 37 by omega), whiteB, decide_eq_true h2, if_true]; omega
theorem endF_stop {s : ByteArray} {k : Nat} (h : k < s.size) (h1 : s[k].toNat ≠ 37) (h2 : ¬ (s[k].toNat = 32 ∨ s[k].toNat = 9 ∨ s[k].toNat = 10 ∨ s[k].toNat = 13)) : endF s k = k := by
  rw [endF, L_drop s k h]; simp only [blk, if_neg h1, whiteB, decide_eq_false h2, Bool.false_eq_true, if_false]; omega
theorem endF_le {s : ByteArray} {k : Nat} (h : k ≤ s.size) : k ≤ endF s k ∧ endF s k ≤ s.size := by
  have := blk_le false ((L s).drop k)
  rw [List.length_drop, L_len] at this
  unfold endF; omega
theorem runE_end {p : UInt8 → Bool} {s : ByteArray} {k : Nat} (h : s.size ≤ k) : runE p s k = k := by rw [runE, L_end s k h]; rfl
theorem runE_step {p : UInt8 → Bool} {s : ByteArray} {k : Nat} (h : k < s.size) (h2 : p s[k] = true) : runE p s k = runE p s (k + 1) := by
  rw [runE, runE, L_drop s k h]; simp only [run, if_pos h2]; omega
theorem runE_stop {p : UInt8 → Bool} {s : ByteArray} {k : Nat} (h : k < s.size) (h2 : p s[k] = false) : runE p s k = k := by
  rw [runE, L_drop s k h]; simp only [run, h2, Bool.false_eq_true, if_false]; omega
theorem runE_le {p : UInt8 → Bool} {s : ByteArray} {k : Nat} (h : k ≤ s.size) : k ≤ runE p s k ∧ runE p s k ≤ s.size := by
  have := run_le p ((L s).drop k)
  rw [List.length_drop, L_len] at this
  unfold runE; omega
/-- the kind of the token at a place, and where it ends -/
def wordK (s : ByteArray) (k : Nat) : Nat := (word ((L s).drop k)).1
def wordN (s : ByteArray) (k : Nat) : Nat := (word ((L s).drop k)).2
theorem word_letter {s : ByteArray} {k : Nat} (h : k < s.size) (h1 : letterB s[k] = true) : word ((L s).drop k) = (1, runE wordB s (k + 1) - k) := by
  rw [L_drop s k h]; simp only [word, if_pos h1, runE]; congr 1; omega
theorem word_digit {s : ByteArray} {k : Nat} (h : k < s.size) (h1 : letterB s[k] = false) (h2 : digB s[k] = true) : word ((L s).drop k) = (2, runE digB s (k + 1) - k) := by
  rw [L_drop s k h]; simp only [word, h1, Bool.false_eq_true, if_false, if_pos h2, runE]; congr 1; omega
theorem word_minus {s : ByteArray} {k : Nat} (h : k < s.size) (h1 : s[k].toNat = 45) (h2 : k + 1 < runE digB s (k + 1)) : word ((L s).drop k) = (2, runE digB s (k + 1) - k) := by
  have a1 : ¬ letterB s[k] = true := by simp only [letterB, Bool.or_eq_true, decide_eq_true_eq]; omega
  have a2 : ¬ digB s[k] = true := by simp only [digB, decide_eq_true_eq]; omega
  rw [L_drop s k h]; unfold runE at h2 ⊢
  simp only [word, if_neg a1, if_neg a2]; rw [if_pos ⟨h1, by omega⟩]; congr 1; omega
theorem word_lone {s : ByteArray} {k : Nat} (h : k < s.size) (h1 : s[k].toNat = 45) (h2 : runE digB s (k + 1) = k + 1) : word ((L s).drop k) = (0, 0) := by
  have a1 : ¬ letterB s[k] = true := by simp only [letterB, Bool.or_eq_true, decide_eq_true_eq]; omega
  have a2 : ¬ digB s[k] = true := by simp only [digB, decide_eq_true_eq]; omega
  have a3 : ¬ signB s[k] = true := by simp only [signB, decide_eq_true_eq]; omega
  rw [L_drop s k h]; unfold runE at h2
  simp only [word, if_neg a1, if_neg a2, if_neg a3]; rw [if_neg (by omega), if_neg (by omega)]
theorem head_at {s : ByteArray} {k : Nat} {c : UInt8} (h : k < s.size) : ((L s).drop k).head? = some c ↔ s[k] = c := by
  rw [L_drop s k h]; simp
theorem word_two {s : ByteArray} {k : Nat} (h : k + 1 < s.size) (h1 : s[k].toNat = 58 ∨ s[k].toNat = 46) (h2 : s[k + 1].toNat = s[k].toNat) : word ((L s).drop k) = (3, 2) := by
  have a1 : ¬ letterB s[k] = true := by simp only [letterB, Bool.or_eq_true, decide_eq_true_eq]; omega
  have a2 : ¬ digB s[k] = true := by simp only [digB, decide_eq_true_eq]; omega
  have a3 : ((L s).drop (k + 1)).head? = some s[k] := (head_at h).2 (UInt8.toNat_inj.1 h2)
  rw [L_drop s k (by omega)]
  simp only [word, if_neg a1, if_neg a2]; rw [if_neg (by omega), if_pos ⟨h1, a3⟩]
theorem word_one {s : ByteArray} {k : Nat} (h : k < s.size) (h1 : signB s[k] = true) (h2 : s[k].toNat = 58 → ∀ h : k + 1 < s.size, s[k + 1].toNat ≠ 58) : word ((L s).drop k) = (3, 1) := by
  have h1' := h1
  simp only [signB, decide_eq_true_eq] at h1'
  have a1 : ¬ letterB s[k] = true := by simp only [letterB, Bool.or_eq_true, decide_eq_true_eq]; omega
  have a2 : ¬ digB s[k] = true := by simp only [digB, decide_eq_true_eq]; omega
  rw [L_drop s k h]
  simp only [word, if_neg a1, if_neg a2]; rw [if_neg (by omega), if_neg, if_pos h1]
  rintro ⟨h3, h4⟩
  by_cases h5 : k + 1 < s.size
  · have h6 := (head_at h5).1 h4
    have h7 : s[k + 1].toNat = s[k].toNat := by rw [h6]
    exact h2 (by omega) h5 (by omega)
  · rw [L_end s _ (by omega)] at h4; simp at h4
theorem word_none {s : ByteArray} {k : Nat} (h : k < s.size) (a1 : letterB s[k] = false) (a2 : digB s[k] = false) (a3 : signB s[k] = false) (h1 : s[k].toNat ≠ 45) (h2 : s[k].toNat = 46 → ∀ h : k + 1 < s.size, s[k + 1].toNat ≠ 46) : word ((L s).drop k) = (0, 0) := by
  have a3' := a3
  simp only [signB, decide_eq_false_iff_not] at a3'
  rw [L_drop s k h]
  simp only [word, a1, a2, a3, Bool.false_eq_true, if_false]
  rw [if_neg (by omega), if_neg]
  rintro ⟨h3, h4⟩
  by_cases h5 : k + 1 < s.size
  · have h6 := (head_at h5).1 h4
    have h7 : s[k + 1].toNat = s[k].toNat := by rw [h6]
    exact h2 (by omega) h5 (by omega)
  · rw [L_end s _ (by omega)] at h4; simp at h4
/-- a part of a text -/
theorem L_extract (s : ByteArray) (i j : Nat) (h : i ≤ j) : L (s.extract i j) = ((L s).drop i).take (j - i) := by
  unfold L
  rw [ByteArray.data_extract, Array.toList_extract]
theorem L_append (s t : ByteArray) : L (s ++ t) = L s ++ L t := by
  unfold L; rw [ByteArray.data_append, Array.toList_append]
theorem L_inj {s t : ByteArray} (h : L s = L t) : s = t := by
  cases s with | mk a => cases t with | mk b => congr 1; exact Array.toList_inj.1 h
theorem L_mk (l : Bs) : L ⟨l.toArray⟩ = l := rfl
end Go.Proofs.Ytfcinefmnigacaa.Lx
