/- What the calls of the document's own answers for layer 1 give back. -/
import Derived.Test.YtodianconjkpoaaRows
import Derived.Test.YtodianconjkpoaaNum1
import Derived.Test.YtodianconjkpoaaChk
namespace Go.Proofs.Ytodianconjkpoaa.Ref01
open Go.RowKit
open Go.Proofs.Ytodianconjkpoaa.Num
open Go.Proofs.Ytodianconjkpoaa.Chk (Drew)

theorem add_any (a b : Int) (ha : fits a = true) (hb : fits b = true) (w : World) :
    Calls Try.prog 12 #[.int .i64 a, .int .i64 b] w fun e w' => e = two (val (a + b)) (err (a + b)) ∧ w = w' := by
  go_enter Try.func12, Try.ntmps12
  go_wp2
  all_goals go_ret2
  all_goals first
    | (have h := radd_over ha hb (by omega)
       exact ⟨two_eq (val_out h).symm (err_out h).symm, rfl⟩)
    | (have h := radd_in ha hb (by omega)
       exact ⟨two_eq (by rw [val_in h, wrap_in h]) (err_in h).symm, rfl⟩)

theorem sub_any (a b : Int) (ha : fits a = true) (hb : fits b = true) (w : World) :
    Calls Try.prog 14 #[.int .i64 a, .int .i64 b] w fun e w' => e = two (val (a - b)) (err (a - b)) ∧ w = w' := by
  go_enter Try.func14, Try.ntmps14
  go_wp2
  all_goals go_ret2
  all_goals first
    | (have h := rsub_over ha hb (by omega)
       exact ⟨two_eq (val_out h).symm (err_out h).symm, rfl⟩)
    | (have h := rsub_in ha hb (by omega)
       exact ⟨two_eq (by rw [val_in h, wrap_in h]) (err_in h).symm, rfl⟩)

theorem mul_any (a b : Int) (ha : fits a = true) (hb : fits b = true) (w : World) :
    Calls Try.prog 16 #[.int .i64 a, .int .i64 b] w fun e w' => e = two (val (a * b)) (err (a * b)) ∧ w = w' := by
  by_cases a0 : (a == 0) = true
  · go_enter Try.func16, Try.ntmps16
    go_wp2
    go_ret2
    obtain rfl : a = 0 := by simpa using a0
    exact ⟨two_eq (by simp [val]) (by simp [err, fits]), rfl⟩
  have a1 : (a == 0) = false := by simpa using a0
  clear a0
  by_cases b0 : (b == 0) = true
  · go_enter Try.func16, Try.ntmps16
    go_wp2
    go_ret2
    obtain rfl : b = 0 := by simpa using b0
    exact ⟨two_eq (by simp [val]) (by simp [err, fits]), rfl⟩
  have b1 : (b == 0) = false := by simpa using b0
  have bz : ¬ b = 0 := by simpa using b0
  clear b0
  by_cases a2 : (a == -1) = true
  · go_enter Try.func16, Try.ntmps16
    go_wp2_with (go_at_call 14; refine (sub_any _ _ (by decide) hb _).mono ?_; rintro e w' ⟨rfl, rfl⟩)
    go_ret2
    obtain rfl : a = -1 := by simpa using a2

    exact ⟨two_eq (congrArg val (by omega)) (congrArg err (by omega)), rfl⟩
  have a3 : (a == -1) = false := by simpa using a2
  clear a2
  by_cases b2 : (b == -1) = true
  · go_enter Try.func16, Try.ntmps16
    go_wp2_with (go_at_call 14; refine (sub_any _ _ (by decide) ha _).mono ?_; rintro e w' ⟨rfl, rfl⟩)
    go_ret2
    obtain rfl : b = -1 := by simpa using b2

    exact ⟨two_eq (congrArg val (by omega)) (congrArg err (by omega)), rfl⟩
  have b3 : (b == -1) = false := by simpa using b2
  clear b2
  have az : ¬ a = 0 := by simpa using a1
  rcases (show (0 < a ∧ 0 < b) ∨ (0 < a ∧ b < 0) ∨ (a < 0 ∧ 0 < b) ∨ (a < 0 ∧ b < 0) by omega) with ⟨sa, sb⟩ | ⟨sa, sb⟩ | ⟨sa, sb⟩ | ⟨sa, sb⟩
  · by_cases hf : fits (a * b) = true
    · have ht : a ≤ 9223372036854775807 / b := (pp sa sb).mpr hf
      have HF := Lib.hid hf; clear hf
      go_enter Try.func16, Try.ntmps16
      go_wp2
      go_ret2
      exact ⟨two_eq (by rw [val_in HF.out, wrap_in HF.out]) (err_in HF.out).symm, rfl⟩
    · have ht : ¬ (a ≤ 9223372036854775807 / b) := fun h => hf ((pp sa sb).mp h)
      have HF := Lib.hid hf; clear hf
      go_enter Try.func16, Try.ntmps16
      go_wp2
      go_ret2
      exact ⟨two_eq (val_out (by simpa using HF.out)).symm (err_out (by simpa using HF.out)).symm, rfl⟩
  · by_cases hf : fits (a * b) = true
    · have ht : ¬ (b < wrap64 (-Int.tdiv 9223372036854775808 a)) := fun h => by have := (pn sa sb).mp h; rw [hf] at this; cases this
      have HF := Lib.hid hf; clear hf
      go_enter Try.func16, Try.ntmps16
      go_wp2
      go_ret2
      exact ⟨two_eq (by rw [val_in HF.out, wrap_in HF.out]) (err_in HF.out).symm, rfl⟩
    · have ht : b < wrap64 (-Int.tdiv 9223372036854775808 a) := (pn sa sb).mpr (by simpa using hf)
      have HF := Lib.hid hf; clear hf
      go_enter Try.func16, Try.ntmps16
      go_wp2
      go_ret2
      exact ⟨two_eq (val_out (by simpa using HF.out)).symm (err_out (by simpa using HF.out)).symm, rfl⟩
  · by_cases hf : fits (a * b) = true
    · have ht : ¬ (a < wrap64 (-Int.tdiv 9223372036854775808 b)) := fun h => by have := (np sa sb).mp h; rw [hf] at this; cases this
      have HF := Lib.hid hf; clear hf
      go_enter Try.func16, Try.ntmps16
      go_wp2
      go_ret2
      exact ⟨two_eq (by rw [val_in HF.out, wrap_in HF.out]) (err_in HF.out).symm, rfl⟩
    · have ht : a < wrap64 (-Int.tdiv 9223372036854775808 b) := (np sa sb).mpr (by simpa using hf)
      have HF := Lib.hid hf; clear hf
      go_enter Try.func16, Try.ntmps16
      go_wp2
      go_ret2
      exact ⟨two_eq (val_out (by simpa using HF.out)).symm (err_out (by simpa using HF.out)).symm, rfl⟩
  · by_cases hf : fits (a * b) = true
    · have ht : ¬ (a < wrap64 (Int.tdiv 9223372036854775807 b)) := fun h => by have := (nn sa sb).mp h; rw [hf] at this; cases this
      have HF := Lib.hid hf; clear hf
      go_enter Try.func16, Try.ntmps16
      go_wp2
      go_ret2
      exact ⟨two_eq (by rw [val_in HF.out, wrap_in HF.out]) (err_in HF.out).symm, rfl⟩
    · have ht : a < wrap64 (Int.tdiv 9223372036854775807 b) := (nn sa sb).mpr (by simpa using hf)
      have HF := Lib.hid hf; clear hf
      go_enter Try.func16, Try.ntmps16
      go_wp2
      go_ret2
      exact ⟨two_eq (val_out (by simpa using HF.out)).symm (err_out (by simpa using HF.out)).symm, rfl⟩

theorem floor_any (a b : Int) (ha : fits a = true) (w : World) :
    Calls Try.prog 18 #[.int .i64 a, .int .i64 b] w fun e w' => e = two (flo a b) (dbad a b) ∧ w = w' := by
  by_cases h0 : b = 0
  · subst h0
    go_enter Try.func18, Try.ntmps18
    go_wp2
    go_ret2
    exact ⟨two_eq (by simp [flo, dbad]) (by simp [dbad]), rfl⟩
  by_cases ho : a = -9223372036854775808 ∧ b = -1
  · obtain ⟨rfl, rfl⟩ := ho
    clear h0 ha
    go_enter Try.func18, Try.ntmps18
    go_wp2
    go_ret2
    exact ⟨two_eq (by decide) (by decide), rfl⟩
  have hd := dbad_ok h0 ho
  have HD := Lib.hid hd
  have HQ := Lib.hid (wrap_in (quo_fits ha ho))
  have hz : (b == 0) = false := by simpa using h0
  have hg : ((a == -9223372036854775808) && (b == -1)) = false := by simpa using ho
  have HO := Lib.hid ho
  have eq : a.tdiv b = quo a b := rfl
  have er : a.tmod b = rem a b := rfl
  have qf := wrap_in (quo_fits ha ho)
  have hsg := of_fits ha
  by_cases hr : (rem a b != 0) = true
  · have hq := quo_half ha (by simpa using hr)
    have HR := Lib.hid (by simpa using hr : rem a b ≠ 0)
    by_cases aa : (a == -9223372036854775808) = true
    · have bb : (b == -1) = false := by
        simp at aa; simp [aa] at ho; simpa using ho
      clear ho hg hd hsg
      have hz3 : rem a b = 0 ↔ False := by simpa using HR.out
      by_cases c1 : a < 0 <;> by_cases c2 : b < 0
      · have d1 : decide (a < 0) = true := by simpa using c1
        have d2 : decide (b < 0) = true := by simpa using c2
        go_enter Try.func18, Try.ntmps18
        go_wp2
        go_ret2
        exact ⟨two_eq (by have h5 := HR.out; simp [flo, HD.out, h5]; omega) HD.out.symm, rfl⟩
      · have d1 : decide (a < 0) = true := by simpa using c1
        have d2 : decide (b < 0) = false := by simpa using c2
        go_enter Try.func18, Try.ntmps18
        go_wp2
        go_ret2
        exact ⟨two_eq (by have h5 := HR.out; simp [flo, HD.out, h5]; omega) HD.out.symm, rfl⟩
      · have d1 : decide (a < 0) = false := by simpa using c1
        have d2 : decide (b < 0) = true := by simpa using c2
        go_enter Try.func18, Try.ntmps18
        go_wp2
        go_ret2
        exact ⟨two_eq (by have h5 := HR.out; simp [flo, HD.out, h5]; omega) HD.out.symm, rfl⟩
      · have d1 : decide (a < 0) = false := by simpa using c1
        have d2 : decide (b < 0) = false := by simpa using c2
        go_enter Try.func18, Try.ntmps18
        go_wp2
        go_ret2
        exact ⟨two_eq (by have h5 := HR.out; simp [flo, HD.out, h5]; omega) HD.out.symm, rfl⟩
    · have bb : (a == -9223372036854775808) = false := by simpa using aa
      clear ho hg hd aa
      have hz3 : rem a b = 0 ↔ False := by simpa using HR.out
      by_cases c1 : a < 0 <;> by_cases c2 : b < 0
      · have d1 : decide (a < 0) = true := by simpa using c1
        have d2 : decide (b < 0) = true := by simpa using c2
        go_enter Try.func18, Try.ntmps18
        go_wp2
        go_ret2
        exact ⟨two_eq (by have h5 := HR.out; simp [flo, HD.out, h5]; omega) HD.out.symm, rfl⟩
      · have d1 : decide (a < 0) = true := by simpa using c1
        have d2 : decide (b < 0) = false := by simpa using c2
        go_enter Try.func18, Try.ntmps18
        go_wp2
        go_ret2
        exact ⟨two_eq (by have h5 := HR.out; simp [flo, HD.out, h5]; omega) HD.out.symm, rfl⟩
      · have d1 : decide (a < 0) = false := by simpa using c1
        have d2 : decide (b < 0) = true := by simpa using c2
        go_enter Try.func18, Try.ntmps18
        go_wp2
        go_ret2
        exact ⟨two_eq (by have h5 := HR.out; simp [flo, HD.out, h5]; omega) HD.out.symm, rfl⟩
      · have d1 : decide (a < 0) = false := by simpa using c1
        have d2 : decide (b < 0) = false := by simpa using c2
        go_enter Try.func18, Try.ntmps18
        go_wp2
        go_ret2
        exact ⟨two_eq (by have h5 := HR.out; simp [flo, HD.out, h5]; omega) HD.out.symm, rfl⟩
  · have hr' : (rem a b != 0) = false := by simpa using hr
    have hr2 : rem a b = 0 := by simpa using hr
    by_cases aa : (a == -9223372036854775808) = true
    · have bb : (b == -1) = false := by
        simp at aa; simp [aa] at ho; simpa using ho
      clear ho hg hd hr hsg
      go_enter Try.func18, Try.ntmps18
      go_wp2
      go_ret2
      exact ⟨two_eq (by simp [flo, HD.out, hr2]; exact HQ.out) HD.out.symm, rfl⟩
    · have bb : (a == -9223372036854775808) = false := by simpa using aa
      clear ho hg hd hr aa
      go_enter Try.func18, Try.ntmps18
      go_wp2
      go_ret2
      exact ⟨two_eq (by simp [flo, HD.out, hr2]; exact HQ.out) HD.out.symm, rfl⟩

theorem ceil_any (a b : Int) (ha : fits a = true) (w : World) :
    Calls Try.prog 20 #[.int .i64 a, .int .i64 b] w fun e w' => e = two (cei a b) (dbad a b) ∧ w = w' := by
  by_cases h0 : b = 0
  · subst h0
    go_enter Try.func20, Try.ntmps20
    go_wp2
    go_ret2
    exact ⟨two_eq (by simp [cei, dbad]) (by simp [dbad]), rfl⟩
  by_cases ho : a = -9223372036854775808 ∧ b = -1
  · obtain ⟨rfl, rfl⟩ := ho
    clear h0 ha
    go_enter Try.func20, Try.ntmps20
    go_wp2
    go_ret2
    exact ⟨two_eq (by decide) (by decide), rfl⟩
  have hd := dbad_ok h0 ho
  have HD := Lib.hid hd
  have HQ := Lib.hid (wrap_in (quo_fits ha ho))
  have hz : (b == 0) = false := by simpa using h0
  have hg : ((a == -9223372036854775808) && (b == -1)) = false := by simpa using ho
  have HO := Lib.hid ho
  have eq : a.tdiv b = quo a b := rfl
  have er : a.tmod b = rem a b := rfl
  have qf := wrap_in (quo_fits ha ho)
  have hsg := of_fits ha
  by_cases hr : (rem a b != 0) = true
  · have hq := quo_half ha (by simpa using hr)
    have HR := Lib.hid (by simpa using hr : rem a b ≠ 0)
    by_cases aa : (a == -9223372036854775808) = true
    · have bb : (b == -1) = false := by
        simp at aa; simp [aa] at ho; simpa using ho
      clear ho hg hd hsg
      have hz3 : rem a b = 0 ↔ False := by simpa using HR.out
      by_cases c1 : a < 0 <;> by_cases c2 : b < 0
      · have d1 : decide (a < 0) = true := by simpa using c1
        have d2 : decide (b < 0) = true := by simpa using c2
        go_enter Try.func20, Try.ntmps20
        go_wp2
        go_ret2
        exact ⟨two_eq (by have h5 := HR.out; simp [cei, HD.out, h5]; omega) HD.out.symm, rfl⟩
      · have d1 : decide (a < 0) = true := by simpa using c1
        have d2 : decide (b < 0) = false := by simpa using c2
        go_enter Try.func20, Try.ntmps20
        go_wp2
        go_ret2
        exact ⟨two_eq (by have h5 := HR.out; simp [cei, HD.out, h5]; omega) HD.out.symm, rfl⟩
      · have d1 : decide (a < 0) = false := by simpa using c1
        have d2 : decide (b < 0) = true := by simpa using c2
        go_enter Try.func20, Try.ntmps20
        go_wp2
        go_ret2
        exact ⟨two_eq (by have h5 := HR.out; simp [cei, HD.out, h5]; omega) HD.out.symm, rfl⟩
      · have d1 : decide (a < 0) = false := by simpa using c1
        have d2 : decide (b < 0) = false := by simpa using c2
        go_enter Try.func20, Try.ntmps20
        go_wp2
        go_ret2
        exact ⟨two_eq (by have h5 := HR.out; simp [cei, HD.out, h5]; omega) HD.out.symm, rfl⟩
    · have bb : (a == -9223372036854775808) = false := by simpa using aa
      clear ho hg hd aa
      have hz3 : rem a b = 0 ↔ False := by simpa using HR.out
      by_cases c1 : a < 0 <;> by_cases c2 : b < 0
      · have d1 : decide (a < 0) = true := by simpa using c1
        have d2 : decide (b < 0) = true := by simpa using c2
        go_enter Try.func20, Try.ntmps20
        go_wp2
        go_ret2
        exact ⟨two_eq (by have h5 := HR.out; simp [cei, HD.out, h5]; omega) HD.out.symm, rfl⟩
      · have d1 : decide (a < 0) = true := by simpa using c1
        have d2 : decide (b < 0) = false := by simpa using c2
        go_enter Try.func20, Try.ntmps20
        go_wp2
        go_ret2
        exact ⟨two_eq (by have h5 := HR.out; simp [cei, HD.out, h5]; omega) HD.out.symm, rfl⟩
      · have d1 : decide (a < 0) = false := by simpa using c1
        have d2 : decide (b < 0) = true := by simpa using c2
        go_enter Try.func20, Try.ntmps20
        go_wp2
        go_ret2
        exact ⟨two_eq (by have h5 := HR.out; simp [cei, HD.out, h5]; omega) HD.out.symm, rfl⟩
      · have d1 : decide (a < 0) = false := by simpa using c1
        have d2 : decide (b < 0) = false := by simpa using c2
        go_enter Try.func20, Try.ntmps20
        go_wp2
        go_ret2
        exact ⟨two_eq (by have h5 := HR.out; simp [cei, HD.out, h5]; omega) HD.out.symm, rfl⟩
  · have hr' : (rem a b != 0) = false := by simpa using hr
    have hr2 : rem a b = 0 := by simpa using hr
    by_cases aa : (a == -9223372036854775808) = true
    · have bb : (b == -1) = false := by
        simp at aa; simp [aa] at ho; simpa using ho
      clear ho hg hd hr hsg
      go_enter Try.func20, Try.ntmps20
      go_wp2
      go_ret2
      exact ⟨two_eq (by simp [cei, HD.out, hr2]; exact HQ.out) HD.out.symm, rfl⟩
    · have bb : (a == -9223372036854775808) = false := by simpa using aa
      clear ho hg hd hr aa
      go_enter Try.func20, Try.ntmps20
      go_wp2
      go_ret2
      exact ⟨two_eq (by simp [cei, HD.out, hr2]; exact HQ.out) HD.out.symm, rfl⟩
end Go.Proofs.Ytodianconjkpoaa.Ref01
