/- What the document's own Right and made of layer 3 give back. -/
import Derived.Test.YtbkkalmdjcpgoaaDoorZ3
import Derived.Test.YtbkkalmdjcpgoaaDoorRef02a
namespace Go.Proofs.YtbkkalmdjcpgoaaDoor.Ref03
open Go.RowKit
set_option linter.unusedVariables false
open Go.Proofs.YtbkkalmdjcpgoaaDoor.Dig

theorem right_any (m : Value) (neg : Bool) (ds : List Nat) (w : World) (h : Row w m ds) (hl : ds.length ≤ 10000) :
    Calls Tryd.prog 56 #[sv neg m] w fun e w' => e = .returned (.bool (srightB neg ds)) ∧ Since w w' := by
  have H := Lib.hid h
  have HL := Lib.hid hl
  obtain ⟨_, A, c, rfl, _, -⟩ := h
  by_cases r : rightB ds = true
  · cases neg
    · have e : srightB false ds = true := by simp [srightB, r]
      rw [e]
      clear e
      go_enter Tryd.func56, Tryd.ntmps56
      go_wp2_with (go_at_call 70; (with_reducible refine (Ref02.right_any (.slice A ds.length c) ds _ (H.out.since ((Since.refl _).alloc _)) (by have := HL.out; omega)).mono ?_); rintro e w1 ⟨rfl, rfl⟩)
      go_ret
      exact ⟨rfl, (Since.refl _).alloc _⟩
    · by_cases h0 : ds.length = 0
      · have e : srightB true ds = false := by simp [srightB, h0]
        rw [e]
        have hz : ((ds.length : Int) == 0) = true := by rw [beq_iff_eq]; omega
        clear e h0
        go_enter Tryd.func56, Tryd.ntmps56
        go_wp2_with (go_at_call 70; (with_reducible refine (Ref02.right_any (.slice A ds.length c) ds _ (H.out.since ((Since.refl _).alloc _)) (by have := HL.out; omega)).mono ?_); rintro e w1 ⟨rfl, rfl⟩)
        go_ret
        exact ⟨rfl, (Since.refl _).alloc _⟩
      · have e : srightB true ds = true := by simp [srightB, r]; intro h; exact h0 (by rw [h]; rfl)
        rw [e]
        have hz : ((ds.length : Int) == 0) = false := by rw [beq_eq_false_iff_ne]; omega
        clear e h0
        go_enter Tryd.func56, Tryd.ntmps56
        go_wp2_with (go_at_call 70; (with_reducible refine (Ref02.right_any (.slice A ds.length c) ds _ (H.out.since ((Since.refl _).alloc _)) (by have := HL.out; omega)).mono ?_); rintro e w1 ⟨rfl, rfl⟩)
        go_ret
        exact ⟨rfl, (Since.refl _).alloc _⟩
  · have r' : rightB ds = false := by simpa using r
    have e : srightB neg ds = false := by simp [srightB, r']
    rw [e]
    clear e r
    go_enter Tryd.func56, Tryd.ntmps56
    go_wp2_with (go_at_call 70; (with_reducible refine (Ref02.right_any (.slice A ds.length c) ds _ (H.out.since ((Since.refl _).alloc _)) (by have := HL.out; omega)).mono ?_); rintro e w1 ⟨rfl, rfl⟩)
    go_ret
    exact ⟨rfl, (Since.refl _).alloc _⟩
theorem made_any (m : Value) (neg : Bool) (ds : List Nat) (w : World) (h : Row w m ds) (hl : ds.length ≤ 1000000) :
    Calls Tryd.prog 50 #[.bool neg, m] w fun e w' => e = .returned (sv (signB neg ds) m) ∧ Since w w' := by
  obtain ⟨_, A, c, rfl, _, -⟩ := h
  cases neg
  · go_enter Tryd.func50, Tryd.ntmps50
    go_wp2
    exact bodyPost_ret (v := sv (signB false ds) (.slice A ds.length c)) (by simp [results, Tryd.results50, go_sem, signB]) rfl ⟨rfl, by repeat (first | exact Since.refl _ | refine Since.alloc ?_ _ | refine Since.set ?_ (by first | exact Nat.le_refl _ | simp) _)⟩
  · by_cases h0 : 0 < ds.length
    · have e : signB true ds = true := by simp [signB, h0]
      rw [e]
      clear e
      go_enter Tryd.func50, Tryd.ntmps50
      go_wp2
      exact bodyPost_ret (v := sv true (.slice A ds.length c)) (by simp [results, Tryd.results50, go_sem]) rfl ⟨rfl, by repeat (first | exact Since.refl _ | refine Since.alloc ?_ _ | refine Since.set ?_ (by first | exact Nat.le_refl _ | simp) _)⟩
    · have e : signB true ds = false := by simp only [signB, Bool.true_and]; exact decide_eq_false h0
      rw [e]
      have hz : decide (0 < (ds.length : Int)) = false := by rw [decide_eq_false_iff_not]; omega
      clear e
      go_enter Tryd.func50, Tryd.ntmps50
      go_wp2
      exact bodyPost_ret (v := sv false (.slice A ds.length c)) (by simp [results, Tryd.results50, go_sem]) rfl ⟨rfl, by repeat (first | exact Since.refl _ | refine Since.alloc ?_ _ | refine Since.set ?_ (by first | exact Nat.le_refl _ | simp) _)⟩
theorem made_plus (m : Value) (ds : List Nat) (w : World) (h : Row w m ds) (hl : ds.length ≤ 256) :
    Calls Tryd.prog 50 #[.bool false, m] w fun e w' => e = .returned (sv false m) ∧ Since w w' := by
  have := made_any m false ds w h (by omega)
  rwa [show signB false ds = false from rfl] at this
theorem made_minus (m : Value) (ds : List Nat) (w : World) (h : Row w m ds) (hl : ds.length ≤ 256) (h0 : ds.length ≠ 0) :
    Calls Tryd.prog 50 #[.bool true, m] w fun e w' => e = .returned (sv true m) ∧ Since w w' := by
  have := made_any m true ds w h (by omega)
  rwa [show signB true ds = true by simp [signB]; omega] at this
end Go.Proofs.YtbkkalmdjcpgoaaDoor.Ref03
