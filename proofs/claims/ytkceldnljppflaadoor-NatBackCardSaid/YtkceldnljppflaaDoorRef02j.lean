/- What the document's own Add, Mul, Sub, Cmp give back. -/
import Derived.Test.YtkceldnljppflaaDoorRef02i
import Derived.Test.YtkceldnljppflaaDoorRef02f
import Derived.Test.YtkceldnljppflaaDoorRef02c
namespace Go.Proofs.YtkceldnljppflaaDoor.Ref02
open Go.RowKit
set_option linter.unusedVariables false
open Go.Proofs.YtkceldnljppflaaDoor.Dig

theorem plus_lt {a b k : Nat} (h1 : a < 4294967296 ^ k) (h2 : b < 4294967296 ^ k) : a + b < 4294967296 ^ (k + (k + 1)) := by
  have h3 : (4294967296 : Nat) ^ (k + (k + 1)) = 4294967296 ^ k * 4294967296 ^ (k + 1) := by rw [← Nat.pow_add]
  have h4 : 2 ≤ (4294967296 : Nat) ^ (k + 1) := by
    have : (4294967296 : Nat) ^ 1 ≤ 4294967296 ^ (k + 1) := Nat.pow_le_pow_right (by omega) (by omega)
    omega
  have h5 := Nat.mul_le_mul_left (4294967296 ^ k) h4
  generalize (4294967296 : Nat) ^ (k + (k + 1)) = X at *
  generalize (4294967296 : Nat) ^ k * 4294967296 ^ (k + 1) = Y at *
  generalize (4294967296 : Nat) ^ k = Z at *
  omega
theorem product_lt {a b k : Nat} (h1 : a < 4294967296 ^ k) (h2 : b < 4294967296 ^ k) : a * b < 4294967296 ^ (k + (k + 1)) := by
  have h3 : (4294967296 : Nat) ^ (k + (k + 1)) = 4294967296 ^ k * 4294967296 ^ (k + 1) := by rw [← Nat.pow_add]
  rw [h3]
  have h4 : (4294967296 : Nat) ^ k ≤ 4294967296 ^ (k + 1) := Nat.pow_le_pow_right (by omega) (by omega)
  exact Nat.lt_of_le_of_lt (Nat.mul_le_mul_right b (Nat.le_of_lt h1)) (Nat.mul_lt_mul_of_pos_left (Nat.lt_of_lt_of_le h2 h4) (Nat.pow_pos (by omega)))

set_option maxRecDepth 100000 in
set_option maxHeartbeats 1000000 in
theorem add_any (va vb : Value) (xs ys : List Nat) (w : World) (hx : Row w va xs) (hy : Row w vb ys) (lx : xs.length ≤ 10000) (ly : ys.length ≤ 10000) :
    Calls Tryd.prog 23 #[va, vb] w (RetRowErr (addD xs ys).1 (addD xs ys).2 w) := by
  have HX := Lib.hid hx
  have HY := Lib.hid hy
  have LX := Lib.hid (And.intro lx ly)
  clear hx hy lx ly
  by_cases r1 : rightB xs = true
  · by_cases r2 : rightB ys = true
    · have es : addD xs ys = fitD (num xs + num ys) := by unfold addD; rw [if_pos ⟨r1, r2⟩]
      rw [es]
      have l3 : (digs (num xs + num ys)).length ≤ 1000000 := by
        obtain ⟨k, hk⟩ : ∃ k, k = 10000 := ⟨_, rfl⟩
        refine Nat.le_trans (digs_len_le (k := k + (k + 1)) ?_) (by omega)
        have h1 := Nat.lt_of_lt_of_le (num_lt HX.out.dig) (Nat.pow_le_pow_right (n := 4294967296) (j := k) (by omega) (by rw [hk]; exact LX.out.1))
        have h2 := Nat.lt_of_lt_of_le (num_lt HY.out.dig) (Nat.pow_le_pow_right (n := 4294967296) (j := k) (by omega) (by rw [hk]; exact LX.out.2))
        exact plus_lt h1 h2
      have L3 := Lib.hid l3
      clear es l3
      by_cases hf : (digs (num xs + num ys)).length ≤ 256
      · have es : fitD (num xs + num ys) = (digs (num xs + num ys), 0) := by unfold fitD; rw [if_pos hf]
        rw [es]
        have HF := Lib.hid hf
        clear es hf
        go_enter Tryd.func23, Tryd.ntmps23
        go_wp2_with (first
          | (go_at_call 18; (with_reducible refine (right_any va xs _ HX.out (by have := LX.out; omega)).mono ?_); rintro e w1 ⟨rfl, rfl⟩)
          | (go_at_call 18; (with_reducible refine (right_any vb ys _ HY.out (by have := LX.out; omega)).mono ?_); rintro e w1 ⟨rfl, rfl⟩)
          | (go_at_call 43; (with_reducible refine (plus_any va vb xs ys _ HX.out HY.out (by have := LX.out; omega) (by have := LX.out; omega)).mono ?_); rintro e w2 ⟨v, rfl, hr, hs⟩)
          | (go_at_call 42; (with_reducible refine (fit_any v (digs (num xs + num ys)) _ hr L3.out).mono ?_); rw [if_pos HF.out]; rintro e w3 ⟨v3, rfl, hr3, hs3⟩))
        go_ret2
        exact ⟨_, rfl, ‹Row _ v3 _›, Since.trans ‹Since w _› ‹_›⟩
      · have es : fitD (num xs + num ys) = ([], 3) := by unfold fitD; rw [if_neg hf]
        rw [es]
        have HF := Lib.hid hf
        clear es hf
        go_enter Tryd.func23, Tryd.ntmps23
        go_wp2_with (first
          | (go_at_call 18; (with_reducible refine (right_any va xs _ HX.out (by have := LX.out; omega)).mono ?_); rintro e w1 ⟨rfl, rfl⟩)
          | (go_at_call 18; (with_reducible refine (right_any vb ys _ HY.out (by have := LX.out; omega)).mono ?_); rintro e w1 ⟨rfl, rfl⟩)
          | (go_at_call 43; (with_reducible refine (plus_any va vb xs ys _ HX.out HY.out (by have := LX.out; omega) (by have := LX.out; omega)).mono ?_); rintro e w2 ⟨v, rfl, hr, hs⟩)
          | (go_at_call 42; (with_reducible refine (fit_any v (digs (num xs + num ys)) _ hr L3.out).mono ?_); rw [if_neg HF.out]; rintro e w3 ⟨v3, rfl, hr3, hs3⟩))
        go_ret2
        exact ⟨_, rfl, ‹Row _ v3 _›, Since.trans ‹Since w _› ‹_›⟩
    · have r2' : rightB ys = false := by simpa using r2
      have es : addD xs ys = ([], 2) := by unfold addD; rw [if_neg (by simp [r2'])]
      rw [es]
      clear es r2
      go_enter Tryd.func23, Tryd.ntmps23
      go_wp2_with (first
        | (go_at_call 18; (with_reducible refine (right_any va xs _ HX.out (by have := LX.out; omega)).mono ?_); rintro e w1 ⟨rfl, rfl⟩)
        | (go_at_call 18; (with_reducible refine (right_any vb ys _ HY.out (by have := LX.out; omega)).mono ?_); rintro e w1 ⟨rfl, rfl⟩))
      go_ret2
      exact ⟨_, rfl, Row.nil _, Since.refl _⟩
  · have r1' : rightB xs = false := by simpa using r1
    have es : addD xs ys = ([], 2) := by unfold addD; rw [if_neg (by simp [r1'])]
    rw [es]
    clear es r1
    go_enter Tryd.func23, Tryd.ntmps23
    go_wp2_with (first
      | (go_at_call 18; (with_reducible refine (right_any va xs _ HX.out (by have := LX.out; omega)).mono ?_); rintro e w1 ⟨rfl, rfl⟩)
      | (go_at_call 18; (with_reducible refine (right_any vb ys _ HY.out (by have := LX.out; omega)).mono ?_); rintro e w1 ⟨rfl, rfl⟩))
    go_ret2
    exact ⟨_, rfl, Row.nil _, Since.refl _⟩

set_option maxRecDepth 100000 in
set_option maxHeartbeats 1000000 in
theorem mul_any (va vb : Value) (xs ys : List Nat) (w : World) (hx : Row w va xs) (hy : Row w vb ys) (lx : xs.length ≤ 10000) (ly : ys.length ≤ 10000) :
    Calls Tryd.prog 27 #[va, vb] w (RetRowErr (mulD xs ys).1 (mulD xs ys).2 w) := by
  have HX := Lib.hid hx
  have HY := Lib.hid hy
  have LX := Lib.hid (And.intro lx ly)
  clear hx hy lx ly
  by_cases r1 : rightB xs = true
  · by_cases r2 : rightB ys = true
    · have es : mulD xs ys = fitD (num xs * num ys) := by unfold mulD; rw [if_pos ⟨r1, r2⟩]
      rw [es]
      have l3 : (digs (num xs * num ys)).length ≤ 1000000 := by
        obtain ⟨k, hk⟩ : ∃ k, k = 10000 := ⟨_, rfl⟩
        refine Nat.le_trans (digs_len_le (k := k + (k + 1)) ?_) (by omega)
        have h1 := Nat.lt_of_lt_of_le (num_lt HX.out.dig) (Nat.pow_le_pow_right (n := 4294967296) (j := k) (by omega) (by rw [hk]; exact LX.out.1))
        have h2 := Nat.lt_of_lt_of_le (num_lt HY.out.dig) (Nat.pow_le_pow_right (n := 4294967296) (j := k) (by omega) (by rw [hk]; exact LX.out.2))
        exact product_lt h1 h2
      have L3 := Lib.hid l3
      clear es l3
      by_cases hf : (digs (num xs * num ys)).length ≤ 256
      · have es : fitD (num xs * num ys) = (digs (num xs * num ys), 0) := by unfold fitD; rw [if_pos hf]
        rw [es]
        have HF := Lib.hid hf
        clear es hf
        go_enter Tryd.func27, Tryd.ntmps27
        go_wp2_with (first
          | (go_at_call 18; (with_reducible refine (right_any va xs _ HX.out (by have := LX.out; omega)).mono ?_); rintro e w1 ⟨rfl, rfl⟩)
          | (go_at_call 18; (with_reducible refine (right_any vb ys _ HY.out (by have := LX.out; omega)).mono ?_); rintro e w1 ⟨rfl, rfl⟩)
          | (go_at_call 48; (with_reducible refine (product_any va vb xs ys _ HX.out HY.out (by have := LX.out; omega) (by have := LX.out; omega)).mono ?_); rintro e w2 ⟨v, rfl, hr, hs⟩)
          | (go_at_call 42; (with_reducible refine (fit_any v (digs (num xs * num ys)) _ hr L3.out).mono ?_); rw [if_pos HF.out]; rintro e w3 ⟨v3, rfl, hr3, hs3⟩))
        go_ret2
        exact ⟨_, rfl, ‹Row _ v3 _›, Since.trans ‹Since w _› ‹_›⟩
      · have es : fitD (num xs * num ys) = ([], 3) := by unfold fitD; rw [if_neg hf]
        rw [es]
        have HF := Lib.hid hf
        clear es hf
        go_enter Tryd.func27, Tryd.ntmps27
        go_wp2_with (first
          | (go_at_call 18; (with_reducible refine (right_any va xs _ HX.out (by have := LX.out; omega)).mono ?_); rintro e w1 ⟨rfl, rfl⟩)
          | (go_at_call 18; (with_reducible refine (right_any vb ys _ HY.out (by have := LX.out; omega)).mono ?_); rintro e w1 ⟨rfl, rfl⟩)
          | (go_at_call 48; (with_reducible refine (product_any va vb xs ys _ HX.out HY.out (by have := LX.out; omega) (by have := LX.out; omega)).mono ?_); rintro e w2 ⟨v, rfl, hr, hs⟩)
          | (go_at_call 42; (with_reducible refine (fit_any v (digs (num xs * num ys)) _ hr L3.out).mono ?_); rw [if_neg HF.out]; rintro e w3 ⟨v3, rfl, hr3, hs3⟩))
        go_ret2
        exact ⟨_, rfl, ‹Row _ v3 _›, Since.trans ‹Since w _› ‹_›⟩
    · have r2' : rightB ys = false := by simpa using r2
      have es : mulD xs ys = ([], 2) := by unfold mulD; rw [if_neg (by simp [r2'])]
      rw [es]
      clear es r2
      go_enter Tryd.func27, Tryd.ntmps27
      go_wp2_with (first
        | (go_at_call 18; (with_reducible refine (right_any va xs _ HX.out (by have := LX.out; omega)).mono ?_); rintro e w1 ⟨rfl, rfl⟩)
        | (go_at_call 18; (with_reducible refine (right_any vb ys _ HY.out (by have := LX.out; omega)).mono ?_); rintro e w1 ⟨rfl, rfl⟩))
      go_ret2
      exact ⟨_, rfl, Row.nil _, Since.refl _⟩
  · have r1' : rightB xs = false := by simpa using r1
    have es : mulD xs ys = ([], 2) := by unfold mulD; rw [if_neg (by simp [r1'])]
    rw [es]
    clear es r1
    go_enter Tryd.func27, Tryd.ntmps27
    go_wp2_with (first
      | (go_at_call 18; (with_reducible refine (right_any va xs _ HX.out (by have := LX.out; omega)).mono ?_); rintro e w1 ⟨rfl, rfl⟩)
      | (go_at_call 18; (with_reducible refine (right_any vb ys _ HY.out (by have := LX.out; omega)).mono ?_); rintro e w1 ⟨rfl, rfl⟩))
    go_ret2
    exact ⟨_, rfl, Row.nil _, Since.refl _⟩
end Go.Proofs.YtkceldnljppflaaDoor.Ref02
