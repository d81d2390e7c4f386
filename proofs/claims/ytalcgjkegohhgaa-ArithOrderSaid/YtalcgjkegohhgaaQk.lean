/- Layer 1 (check): products and rounded quotients alone. -/
import Derived.BigQuiet
import Derived.Deep.QuietTactic
import Derived.Lib.Hide
import Derived.OpenShut
import Derived.ProofKit
import Derived.WalkKit
import Derived.Test.YtalcgjkegohhgaaQaa
namespace Go.Proofs.Ytalcgjkegohhgaa.Chq
open Go.RowKit
open Go.Proofs.Ytalcgjkegohhgaa.Num
theorem mul_any (a b : Int) (ha : fits a = true) (hb : fits b = true) (w : World) :
    Calls Try.prog 143 #[.int .i64 a, .int .i64 b] w fun e w' => e = two (val (a * b)) (err (a * b)) ∧ w = w' := by
  by_cases h0 : (b == 0) = true
  · go_enter Try.func143, Try.ntmps143
    go_wp2
    go_ret2
    obtain rfl : b = 0 := by simpa using h0
    exact ⟨two_eq (by simp [val]) (by simp [err, fits]), rfl⟩
  · have h0' : (b == 0) = false := by simpa using h0
    have hz : ¬ b = 0 := by simpa using h0
    clear h0
    by_cases ho : a = -9223372036854775808 ∧ b = -1
    · obtain ⟨rfl, rfl⟩ := ho
      clear hz h0' ha hb
      go_enter Try.func143, Try.ntmps143
      go_wp2
      go_ret2
      exact ⟨two_eq (by decide) (by decide), rfl⟩
    · have hm := mul_back a b ha hb hz ho
      have HO := Lib.hid ho
      by_cases ha0 : (a == -9223372036854775808) = true
      · have hb1 : (b == -1) = false := by
          simp at ha0; simp [ha0] at ho; simpa using ho
        by_cases hf : fits (a * b) = true
        · have ht : (wrap64 ((wrap64 (a * b)).tdiv b) != a) = false := by simp [hm.mpr hf]
          have HF := Lib.hid hf; clear hf hm ho
          go_enter Try.func143, Try.ntmps143
          go_wp2
          go_ret2
          exact ⟨two_eq (by rw [val_in HF.out, wrap_in HF.out]) (err_in HF.out).symm, rfl⟩
        · have ht : (wrap64 ((wrap64 (a * b)).tdiv b) != a) = true := by simpa using fun h => hf (hm.mp h)
          have HF := Lib.hid hf; clear hf hm ho
          go_enter Try.func143, Try.ntmps143
          go_wp2
          go_ret2
          exact ⟨two_eq (val_out (by simpa using HF.out)).symm (err_out (by simpa using HF.out)).symm, rfl⟩
      · have ha1 : (a == -9223372036854775808) = false := by simpa using ha0
        clear ha0
        by_cases hf : fits (a * b) = true
        · have ht : (wrap64 ((wrap64 (a * b)).tdiv b) != a) = false := by simp [hm.mpr hf]
          have HF := Lib.hid hf; clear hf hm ho
          go_enter Try.func143, Try.ntmps143
          go_wp2
          go_ret2
          exact ⟨two_eq (by rw [val_in HF.out, wrap_in HF.out]) (err_in HF.out).symm, rfl⟩
        · have ht : (wrap64 ((wrap64 (a * b)).tdiv b) != a) = true := by simpa using fun h => hf (hm.mp h)
          have HF := Lib.hid hf; clear hf hm ho
          go_enter Try.func143, Try.ntmps143
          go_wp2
          go_ret2
          exact ⟨two_eq (val_out (by simpa using HF.out)).symm (err_out (by simpa using HF.out)).symm, rfl⟩
/-- three numbers as one result -/
abbrev three (u v e : Int) : Ending := .returned (.tuple #[.int .i64 u, .int .i64 v, .int .i64 e])
theorem three_eq {u v e u' v' e' : Int} (h1 : u = u') (h2 : v = v') (h3 : e = e') : three u v e = three u' v' e' := by rw [h1, h2, h3]
theorem divide_zero (a : Int) (w : World) :
    Calls Try.prog 205 #[.int .i64 a, .int .i64 0] w fun e w' => e = three 0 0 2 ∧ w = w' := by
  go_enter Try.func205, Try.ntmps205
  go_wp2
  go_ret3
  exact ⟨rfl, rfl⟩
theorem divide_over (w : World) :
    Calls Try.prog 205 #[.int .i64 (-9223372036854775808), .int .i64 (-1)] w fun e w' => e = three 0 0 4 ∧ w = w' := by
  go_enter Try.func205, Try.ntmps205
  go_wp2
  go_ret3
  exact ⟨rfl, rfl⟩
/-- nothing has turned but how often the order was drawn -/
def Drew (w w' : World) : Prop := ∃ n, w' = w.drewN n
theorem divide_ok (a b : Int) (ha : fits a = true) (h0 : b ≠ 0) (hx : ¬ (a = -9223372036854775808 ∧ b = -1)) (w : World) :
    Calls Try.prog 205 #[.int .i64 a, .int .i64 b] w fun e w' => e = three (quo a b) (rem a b) 0 ∧ Drew w w' := by
  have hz : (b == 0) = false := by simpa using h0
  have HW := Lib.hid (wrap_in (tdiv_bounds a b ha hx))
  have HX := Lib.hid hx
  by_cases ha0 : (a == -9223372036854775808) = true
  · have hb1 : (b == -1) = false := by
      simp at ha0; simp [ha0] at hx; simpa using hx
    clear hx
    go_enter Try.func205, Try.ntmps205
    go_wp2
    go_quiet (fail)
    go_wp2
    go_ret3
    exact ⟨three_eq HW.out rfl rfl, ⟨_, rfl⟩⟩
  · have ha1 : (a == -9223372036854775808) = false := by simpa using ha0
    clear ha0 hx
    go_enter Try.func205, Try.ntmps205
    go_wp2
    go_quiet (fail)
    go_wp2
    go_ret3
    exact ⟨three_eq HW.out rfl rfl, ⟨_, rfl⟩⟩
theorem floor_any (a b : Int) (ha : fits a = true) (w : World) :
    Calls Try.prog 191 #[.int .i64 a, .int .i64 b] w fun e w' => e = two (flo a b) (dbad a b) ∧ Drew w w' := by
  by_cases h0 : b = 0
  · subst h0
    go_enter Try.func191, Try.ntmps191
    go_wp2_with (go_at_call 205; refine (divide_zero _ _).mono ?_; rintro e w' ⟨rfl, rfl⟩)
    go_ret2
    exact ⟨two_eq (by simp [flo, dbad]) (by simp [dbad]), ⟨0, rfl⟩⟩
  by_cases ho : a = -9223372036854775808 ∧ b = -1
  · obtain ⟨rfl, rfl⟩ := ho
    clear h0 ha
    go_enter Try.func191, Try.ntmps191
    go_wp2_with (go_at_call 205; refine (divide_over _).mono ?_; rintro e w' ⟨rfl, rfl⟩)
    go_ret2
    exact ⟨two_eq (by decide) (by decide), ⟨0, rfl⟩⟩
  have hd := dbad_ok h0 ho
  have HD := Lib.hid hd
  have H0 := Lib.hid h0
  have HO := Lib.hid ho
  have HA := Lib.hid ha
  by_cases hr : (rem a b != 0) = true
  · have hq := quo_half ha (by simpa using hr)
    have hs := rem_neg (by simpa using hr : rem a b ≠ 0)
    have HR := Lib.hid (by simpa using hr : rem a b ≠ 0)
    have hs2 := rem_sign a b
    clear hd h0 ho ha
    by_cases c1 : a < 0 <;> by_cases c2 : b < 0
    · have c3 : rem a b < 0 := by rw [hs]; exact c1
      clear hs hs2
      have d1 : decide (rem a b < 0) = true := by simpa using c3
      have d2 : decide (b < 0) = true := by simpa using c2
      go_enter Try.func191, Try.ntmps191
      go_wp2_with (go_at_call 205; refine (divide_ok _ _ HA.out H0.out HO.out _).mono ?_; rintro e w' ⟨rfl, hw'⟩)
      go_ret2
      exact ⟨two_eq (by have h5 := HR.out; simp [flo, HD.out, h5]; omega) HD.out.symm, ‹_›⟩
    · have c3 : rem a b < 0 := by rw [hs]; exact c1
      clear hs hs2
      have d1 : decide (rem a b < 0) = true := by simpa using c3
      have d2 : decide (b < 0) = false := by simpa using c2
      go_enter Try.func191, Try.ntmps191
      go_wp2_with (go_at_call 205; refine (divide_ok _ _ HA.out H0.out HO.out _).mono ?_; rintro e w' ⟨rfl, hw'⟩)
      go_ret2
      exact ⟨two_eq (by have h5 := HR.out; simp [flo, HD.out, h5]; omega) HD.out.symm, ‹_›⟩
    · have c3 : ¬ rem a b < 0 := by rw [hs]; exact c1
      clear hs hs2
      have d1 : decide (rem a b < 0) = false := by simpa using c3
      have d2 : decide (b < 0) = true := by simpa using c2
      go_enter Try.func191, Try.ntmps191
      go_wp2_with (go_at_call 205; refine (divide_ok _ _ HA.out H0.out HO.out _).mono ?_; rintro e w' ⟨rfl, hw'⟩)
      go_ret2
      exact ⟨two_eq (by have h5 := HR.out; simp [flo, HD.out, h5]; omega) HD.out.symm, ‹_›⟩
    · have c3 : ¬ rem a b < 0 := by rw [hs]; exact c1
      clear hs hs2
      have d1 : decide (rem a b < 0) = false := by simpa using c3
      have d2 : decide (b < 0) = false := by simpa using c2
      go_enter Try.func191, Try.ntmps191
      go_wp2_with (go_at_call 205; refine (divide_ok _ _ HA.out H0.out HO.out _).mono ?_; rintro e w' ⟨rfl, hw'⟩)
      go_ret2
      exact ⟨two_eq (by have h5 := HR.out; simp [flo, HD.out, h5]; omega) HD.out.symm, ‹_›⟩
  · have hr' : (rem a b != 0) = false := by simpa using hr
    clear hr hd h0 ho ha
    go_enter Try.func191, Try.ntmps191
    go_wp2_with (go_at_call 205; refine (divide_ok _ _ HA.out H0.out HO.out _).mono ?_; rintro e w' ⟨rfl, hw'⟩)
    go_ret2
    exact ⟨two_eq (by simp [flo, HD.out]; simp at hr'; simp [hr']) HD.out.symm, ‹_›⟩
theorem ceil_any (a b : Int) (ha : fits a = true) (w : World) :
    Calls Try.prog 190 #[.int .i64 a, .int .i64 b] w fun e w' => e = two (cei a b) (dbad a b) ∧ Drew w w' := by
  by_cases h0 : b = 0
  · subst h0
    go_enter Try.func190, Try.ntmps190
    go_wp2_with (go_at_call 205; refine (divide_zero _ _).mono ?_; rintro e w' ⟨rfl, rfl⟩)
    go_ret2
    exact ⟨two_eq (by simp [cei, dbad]) (by simp [dbad]), ⟨0, rfl⟩⟩
  by_cases ho : a = -9223372036854775808 ∧ b = -1
  · obtain ⟨rfl, rfl⟩ := ho
    clear h0 ha
    go_enter Try.func190, Try.ntmps190
    go_wp2_with (go_at_call 205; refine (divide_over _).mono ?_; rintro e w' ⟨rfl, rfl⟩)
    go_ret2
    exact ⟨two_eq (by decide) (by decide), ⟨0, rfl⟩⟩
  have hd := dbad_ok h0 ho
  have HD := Lib.hid hd
  have H0 := Lib.hid h0
  have HO := Lib.hid ho
  have HA := Lib.hid ha
  by_cases hr : (rem a b != 0) = true
  · have hq := quo_half ha (by simpa using hr)
    have hs := rem_neg (by simpa using hr : rem a b ≠ 0)
    have HR := Lib.hid (by simpa using hr : rem a b ≠ 0)
    have hs2 := rem_sign a b
    clear hd h0 ho ha
    by_cases c1 : a < 0 <;> by_cases c2 : b < 0
    · have c3 : rem a b < 0 := by rw [hs]; exact c1
      clear hs hs2
      have d1 : decide (rem a b < 0) = true := by simpa using c3
      have d2 : decide (b < 0) = true := by simpa using c2
      go_enter Try.func190, Try.ntmps190
      go_wp2_with (go_at_call 205; refine (divide_ok _ _ HA.out H0.out HO.out _).mono ?_; rintro e w' ⟨rfl, hw'⟩)
      go_ret2
      exact ⟨two_eq (by have h5 := HR.out; simp [cei, HD.out, h5]; omega) HD.out.symm, ‹_›⟩
    · have c3 : rem a b < 0 := by rw [hs]; exact c1
      clear hs hs2
      have d1 : decide (rem a b < 0) = true := by simpa using c3
      have d2 : decide (b < 0) = false := by simpa using c2
      go_enter Try.func190, Try.ntmps190
      go_wp2_with (go_at_call 205; refine (divide_ok _ _ HA.out H0.out HO.out _).mono ?_; rintro e w' ⟨rfl, hw'⟩)
      go_ret2
      exact ⟨two_eq (by have h5 := HR.out; simp [cei, HD.out, h5]; omega) HD.out.symm, ‹_›⟩
    · have c3 : ¬ rem a b < 0 := by rw [hs]; exact c1
      clear hs hs2
      have d1 : decide (rem a b < 0) = false := by simpa using c3
      have d2 : decide (b < 0) = true := by simpa using c2
      go_enter Try.func190, Try.ntmps190
      go_wp2_with (go_at_call 205; refine (divide_ok _ _ HA.out H0.out HO.out _).mono ?_; rintro e w' ⟨rfl, hw'⟩)
      go_ret2
      exact ⟨two_eq (by have h5 := HR.out; simp [cei, HD.out, h5]; omega) HD.out.symm, ‹_›⟩
    · have c3 : ¬ rem a b < 0 := by rw [hs]; exact c1
      clear hs hs2
      have d1 : decide (rem a b < 0) = false := by simpa using c3
      have d2 : decide (b < 0) = false := by simpa using c2
      go_enter Try.func190, Try.ntmps190
      go_wp2_with (go_at_call 205; refine (divide_ok _ _ HA.out H0.out HO.out _).mono ?_; rintro e w' ⟨rfl, hw'⟩)
      go_ret2
      exact ⟨two_eq (by have h5 := HR.out; simp [cei, HD.out, h5]; omega) HD.out.symm, ‹_›⟩
  · have hr' : (rem a b != 0) = false := by simpa using hr
    clear hr hd h0 ho ha
    go_enter Try.func190, Try.ntmps190
    go_wp2_with (go_at_call 205; refine (divide_ok _ _ HA.out H0.out HO.out _).mono ?_; rintro e w' ⟨rfl, hw'⟩)
    go_ret2
    exact ⟨two_eq (by simp [cei, HD.out]; simp at hr'; simp [hr']) HD.out.symm, ‹_›⟩
end Go.Proofs.Ytalcgjkegohhgaa.Chq
