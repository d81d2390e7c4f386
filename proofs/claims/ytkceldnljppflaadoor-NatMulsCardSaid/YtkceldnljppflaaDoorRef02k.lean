/- What the document's own Sub and Cmp give back. -/
import Derived.Test.YtkceldnljppflaaDoorRef02j
namespace Go.Proofs.YtkceldnljppflaaDoor.Ref02
open Go.RowKit
set_option linter.unusedVariables false
open Go.Proofs.YtkceldnljppflaaDoor.Dig

set_option maxRecDepth 100000 in
set_option maxHeartbeats 1000000 in
theorem sub_any (va vb : Value) (xs ys : List Nat) (w : World) (hx : Row w va xs) (hy : Row w vb ys) (lx : xs.length ≤ 10000) (ly : ys.length ≤ 10000) :
    Calls Tryd.prog 25 #[va, vb] w (RetRowErr (subD xs ys).1 (subD xs ys).2 w) := by
  have HX := Lib.hid hx
  have HY := Lib.hid hy
  have LX := Lib.hid (And.intro lx ly)
  clear hx hy lx ly
  by_cases r1 : rightB xs = true
  · by_cases r2 : rightB ys = true
    · have el := lessB_norm HX.out.dig HY.out.dig (right_norm r1).2 (right_norm r2).2
      have hs0 := Since.refl w
      by_cases hf : num ys ≤ num xs
      · have es : subD xs ys = (digs (num xs - num ys), 0) := by unfold subD; rw [if_pos ⟨⟨r1, r2⟩, hf⟩]
        rw [es]
        rw [decide_eq_false (by omega)] at el
        have LL := Lib.hid (norm_len_le HX.out.dig (right_norm r2).2 hf)
        have HF := Lib.hid hf
        have EL := Lib.hid el
        clear es hf el
        go_enter Tryd.func25, Tryd.ntmps25
        go_wp2_with (first
          | (go_at_call 18; (with_reducible refine (right_any va xs _ HX.out (by have := LX.out; omega)).mono ?_); rintro e w1 ⟨rfl, rfl⟩)
          | (go_at_call 18; (with_reducible refine (right_any vb ys _ HY.out (by have := LX.out; omega)).mono ?_); rintro e w1 ⟨rfl, rfl⟩)
          | (go_at_call 36; (with_reducible refine (less_any va vb xs ys _ HX.out HY.out (by have := LX.out; omega) (by have := LX.out; omega)).mono ?_); rw [EL.out]; rintro e w1 ⟨rfl, hs1⟩)
          | (go_at_call 46; (with_reducible refine (minus_any va vb xs ys _ (HX.out.since hs1) (HY.out.since hs1) (by have := LX.out; omega) LL.out HF.out).mono ?_); rintro e w2 ⟨v, rfl, hr, hs2⟩))
        go_ret2
        exact ⟨_, rfl, ‹Row _ v _›, Since.trans ‹Since w _› (by assumption)⟩
      · have es : subD xs ys = ([], 2) := by unfold subD; rw [if_neg (by omega)]
        rw [es]
        rw [decide_eq_true (by omega)] at el
        have EL := Lib.hid el
        clear es hf el
        go_enter Tryd.func25, Tryd.ntmps25
        go_wp2_with (first
          | (go_at_call 18; (with_reducible refine (right_any va xs _ HX.out (by have := LX.out; omega)).mono ?_); rintro e w1 ⟨rfl, rfl⟩)
          | (go_at_call 18; (with_reducible refine (right_any vb ys _ HY.out (by have := LX.out; omega)).mono ?_); rintro e w1 ⟨rfl, rfl⟩)
          | (go_at_call 36; (with_reducible refine (less_any va vb xs ys _ HX.out HY.out (by have := LX.out; omega) (by have := LX.out; omega)).mono ?_); rw [EL.out]; rintro e w2 ⟨rfl, hs2⟩))
        go_ret2
        exact ⟨_, rfl, Row.nil _, by assumption⟩
    · have r2' : rightB ys = false := by simpa using r2
      have es : subD xs ys = ([], 2) := by unfold subD; rw [if_neg (by simp [r2'])]
      rw [es]
      clear es r2
      go_enter Tryd.func25, Tryd.ntmps25
      go_wp2_with (first
        | (go_at_call 18; (with_reducible refine (right_any va xs _ HX.out (by have := LX.out; omega)).mono ?_); rintro e w1 ⟨rfl, rfl⟩)
        | (go_at_call 18; (with_reducible refine (right_any vb ys _ HY.out (by have := LX.out; omega)).mono ?_); rintro e w1 ⟨rfl, rfl⟩))
      go_ret2
      exact ⟨_, rfl, Row.nil _, Since.refl _⟩
  · have r1' : rightB xs = false := by simpa using r1
    have es : subD xs ys = ([], 2) := by unfold subD; rw [if_neg (by simp [r1'])]
    rw [es]
    clear es r1
    go_enter Tryd.func25, Tryd.ntmps25
    go_wp2_with (first
      | (go_at_call 18; (with_reducible refine (right_any va xs _ HX.out (by have := LX.out; omega)).mono ?_); rintro e w1 ⟨rfl, rfl⟩)
      | (go_at_call 18; (with_reducible refine (right_any vb ys _ HY.out (by have := LX.out; omega)).mono ?_); rintro e w1 ⟨rfl, rfl⟩))
    go_ret2
    exact ⟨_, rfl, Row.nil _, Since.refl _⟩

set_option maxRecDepth 100000 in
set_option maxHeartbeats 1000000 in
theorem cmp_any (va vb : Value) (xs ys : List Nat) (w : World) (hx : Row w va xs) (hy : Row w vb ys) (lx : xs.length ≤ 10000) (ly : ys.length ≤ 10000) :
    Calls Tryd.prog 16 #[va, vb] w fun e w' => e = .returned (.tuple #[.int .i64 (cmpD xs ys).1, .int .i64 (cmpD xs ys).2]) ∧ Since w w' := by
  have HX := Lib.hid hx
  have HY := Lib.hid hy
  have LX := Lib.hid (And.intro lx ly)
  clear hx hy lx ly
  by_cases r1 : rightB xs = true
  · by_cases r2 : rightB ys = true
    · have el := lessB_norm HX.out.dig HY.out.dig (right_norm r1).2 (right_norm r2).2
      have em := lessB_norm HY.out.dig HX.out.dig (right_norm r2).2 (right_norm r1).2
      have es0 : cmpD xs ys = (if num xs < num ys then (-1, 0) else if num ys < num xs then (1, 0) else (0, 0)) := by unfold cmpD; rw [if_pos ⟨r1, r2⟩]
      rcases Nat.lt_trichotomy (num xs) (num ys) with hf | hf | hf
      · have es : cmpD xs ys = (-1, 0) := by rw [es0, if_pos hf]
        clear es0
        rw [es]
        rw [decide_eq_true (by omega)] at el
        rw [decide_eq_false (by omega)] at em
        have EL := Lib.hid el
        have EM := Lib.hid em
        clear es el em
        go_enter Tryd.func16, Tryd.ntmps16
        go_wp2_with (first
          | (go_at_call 18; (with_reducible refine (right_any va xs _ HX.out (by have := LX.out; omega)).mono ?_); rintro e w1 ⟨rfl, rfl⟩)
          | (go_at_call 18; (with_reducible refine (right_any vb ys _ HY.out (by have := LX.out; omega)).mono ?_); rintro e w1 ⟨rfl, rfl⟩)
          | (go_at_call 36; (with_reducible refine (less_any va vb xs ys _ HX.out HY.out (by have := LX.out; omega) (by have := LX.out; omega)).mono ?_); rw [EL.out]; rintro e w1 ⟨rfl, hs1⟩)
          | (go_at_call 36; (with_reducible refine (less_any vb va ys xs _ (HY.out.since hs1) (HX.out.since hs1) (by have := LX.out; omega) (by have := LX.out; omega)).mono ?_); rw [EM.out]; rintro e w2 ⟨rfl, hs2⟩))
        go_ret2
        exact ⟨rfl, ‹_›⟩
      · have es : cmpD xs ys = (0, 0) := by rw [es0, if_neg (by omega), if_neg (by omega)]
        clear es0
        rw [es]
        rw [decide_eq_false (by omega)] at el
        rw [decide_eq_false (by omega)] at em
        have EL := Lib.hid el
        have EM := Lib.hid em
        clear es el em
        go_enter Tryd.func16, Tryd.ntmps16
        go_wp2_with (first
          | (go_at_call 18; (with_reducible refine (right_any va xs _ HX.out (by have := LX.out; omega)).mono ?_); rintro e w1 ⟨rfl, rfl⟩)
          | (go_at_call 18; (with_reducible refine (right_any vb ys _ HY.out (by have := LX.out; omega)).mono ?_); rintro e w1 ⟨rfl, rfl⟩)
          | (go_at_call 36; (with_reducible refine (less_any va vb xs ys _ HX.out HY.out (by have := LX.out; omega) (by have := LX.out; omega)).mono ?_); rw [EL.out]; rintro e w1 ⟨rfl, hs1⟩)
          | (go_at_call 36; (with_reducible refine (less_any vb va ys xs _ (HY.out.since hs1) (HX.out.since hs1) (by have := LX.out; omega) (by have := LX.out; omega)).mono ?_); rw [EM.out]; rintro e w2 ⟨rfl, hs2⟩))
        go_ret2
        exact ⟨rfl, Since.trans ‹Since w _› (by assumption)⟩
      · have es : cmpD xs ys = (1, 0) := by rw [es0, if_neg (by omega), if_pos hf]
        clear es0
        rw [es]
        rw [decide_eq_false (by omega)] at el
        rw [decide_eq_true (by omega)] at em
        have EL := Lib.hid el
        have EM := Lib.hid em
        clear es el em
        go_enter Tryd.func16, Tryd.ntmps16
        go_wp2_with (first
          | (go_at_call 18; (with_reducible refine (right_any va xs _ HX.out (by have := LX.out; omega)).mono ?_); rintro e w1 ⟨rfl, rfl⟩)
          | (go_at_call 18; (with_reducible refine (right_any vb ys _ HY.out (by have := LX.out; omega)).mono ?_); rintro e w1 ⟨rfl, rfl⟩)
          | (go_at_call 36; (with_reducible refine (less_any va vb xs ys _ HX.out HY.out (by have := LX.out; omega) (by have := LX.out; omega)).mono ?_); rw [EL.out]; rintro e w1 ⟨rfl, hs1⟩)
          | (go_at_call 36; (with_reducible refine (less_any vb va ys xs _ (HY.out.since hs1) (HX.out.since hs1) (by have := LX.out; omega) (by have := LX.out; omega)).mono ?_); rw [EM.out]; rintro e w2 ⟨rfl, hs2⟩))
        go_ret2
        exact ⟨rfl, Since.trans ‹Since w _› (by assumption)⟩
    · have r2' : rightB ys = false := by simpa using r2
      have es : cmpD xs ys = (0, 2) := by unfold cmpD; rw [if_neg (by simp [r2'])]
      rw [es]
      clear es r2
      go_enter Tryd.func16, Tryd.ntmps16
      go_wp2_with (first
        | (go_at_call 18; (with_reducible refine (right_any va xs _ HX.out (by have := LX.out; omega)).mono ?_); rintro e w1 ⟨rfl, rfl⟩)
        | (go_at_call 18; (with_reducible refine (right_any vb ys _ HY.out (by have := LX.out; omega)).mono ?_); rintro e w1 ⟨rfl, rfl⟩))
      go_ret2
      exact ⟨rfl, Since.refl _⟩
  · have r1' : rightB xs = false := by simpa using r1
    have es : cmpD xs ys = (0, 2) := by unfold cmpD; rw [if_neg (by simp [r1'])]
    rw [es]
    clear es r1
    go_enter Tryd.func16, Tryd.ntmps16
    go_wp2_with (first
      | (go_at_call 18; (with_reducible refine (right_any va xs _ HX.out (by have := LX.out; omega)).mono ?_); rintro e w1 ⟨rfl, rfl⟩)
      | (go_at_call 18; (with_reducible refine (right_any vb ys _ HY.out (by have := LX.out; omega)).mono ?_); rintro e w1 ⟨rfl, rfl⟩))
    go_ret2
    exact ⟨rfl, Since.refl _⟩
end Go.Proofs.YtkceldnljppflaaDoor.Ref02
