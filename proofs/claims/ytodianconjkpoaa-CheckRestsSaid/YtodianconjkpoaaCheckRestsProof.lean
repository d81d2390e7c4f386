/-
  For all 64-bit numbers a and b: the law CheckRests returns true (what is left of a division lies between nothing and the divisor). No condition.
-/
import Derived.Test.YtodianconjkpoaaRows
import Derived.WalkKit
import Derived.ProofKit
import Derived.OpenShut
import Derived.ShutString
import Derived.Test.YtodianconjkpoaaAlive01
namespace Go.Proofs.Ytodianconjkpoaa.checkRests
open Go.ChangeShapes Go.WideShapes Go.ChangeAt Go.RowKit
open Go.ChangeMaps (open_string shut_string)
open Go.Proofs.Ytodianconjkpoaa.Num
open Go.Proofs.Ytodianconjkpoaa.Chk (Drew)
set_option linter.unusedVariables false

theorem own : ownKnob Try.prog.godebug = none := by kernel_rfl

theorem wrap_sub (a x : Int) : wrap64 (a - wrap64 x) = wrap64 (a - x) := by unfold wrap64; omega

/-- what is left, rounded down and rounded up: exact -/
theorem rest_exact {a b : Int} (fa : fits a = true) (h0 : b ≠ 0) (ho : ¬ (a = -9223372036854775808 ∧ b = -1)) (hr : rem a b = 0) :
    flo a b = quo a b ∧ cei a b = quo a b ∧ wrap64 (a - wrap64 (quo a b * b)) = 0 := by
  have hd := dbad_ok h0 ho
  have hq := quo_rem a b
  refine ⟨by simp [flo, hd, hr], by simp [cei, hd, hr], ?_⟩
  rw [wrap_sub, Int.mul_comm, show a - b * quo a b = 0 by omega]
  unfold wrap64; decide
/-- .. and not exact -/
theorem rest_some {a b : Int} (fa : fits a = true) (fb : fits b = true) (h0 : b ≠ 0) (ho : ¬ (a = -9223372036854775808 ∧ b = -1)) (hr : rem a b ≠ 0) :
    ∃ r s : Int, wrap64 (a - wrap64 (flo a b * b)) = r ∧ wrap64 (a - wrap64 (cei a b * b)) = s ∧ cei a b = flo a b + 1 ∧ -4611686018427387905 ≤ flo a b ∧ flo a b ≤ 4611686018427387904 ∧
      (0 < b → 0 < r ∧ r < b ∧ s < 0 ∧ -b < s) ∧ (b < 0 → r < 0 ∧ b < r ∧ 0 < s ∧ s + b < 0) := by
  have hd := dbad_ok h0 ho
  have hq := quo_rem a b
  have hs := rem_small (a := a) h0
  have hg := rem_sign a b
  have hh := quo_half fa hr
  have fb' := of_fits fb
  have fa' := of_fits fa
  by_cases c : a < 0 ↔ b < 0
  · have e1 : flo a b = quo a b := by simp [flo, hd, c]
    have e2 : cei a b = quo a b + 1 := by simp [cei, hd, c, hr]
    have x1 : wrap64 (a - wrap64 (quo a b * b)) = rem a b := by
      rw [wrap_sub, Int.mul_comm, show a - b * quo a b = rem a b by omega]
      exact wrap_in (fits_of (by omega))
    have x2 : wrap64 (a - wrap64 ((quo a b + 1) * b)) = rem a b - b := by
      rw [wrap_sub, Int.add_mul, Int.mul_comm, show a - (b * quo a b + 1 * b) = rem a b - b by omega]
      exact wrap_in (fits_of (by omega))
    exact ⟨rem a b, rem a b - b, by rw [e1, x1], by rw [e2, x2], by rw [e1, e2], by rw [e1]; omega, by rw [e1]; omega, by omega, by omega⟩
  · have e1 : flo a b = quo a b - 1 := by simp [flo, hd, c, hr]
    have e2 : cei a b = quo a b := by simp [cei, hd, c]
    have x1 : wrap64 (a - wrap64 ((quo a b - 1) * b)) = rem a b + b := by
      rw [wrap_sub, Int.sub_mul, Int.mul_comm, show a - (b * quo a b - 1 * b) = rem a b + b by omega]
      exact wrap_in (fits_of (by omega))
    have x2 : wrap64 (a - wrap64 (quo a b * b)) = rem a b := by
      rw [wrap_sub, Int.mul_comm, show a - b * quo a b = rem a b by omega]
      exact wrap_in (fits_of (by omega))
    exact ⟨rem a b + b, rem a b, by rw [e1, x1], by rw [e2, x2], by rw [e1, e2]; omega, by rw [e1]; omega, by rw [e1]; omega, by omega, by omega⟩

set_option maxHeartbeats 2000000 in
theorem walk (a0 : Int) (a1 : Int) (w0 : (Lit.int .i64 a0).wf = true) (w1 : (Lit.int .i64 a1).wf = true) (w : World) :
    Calls Try.prog 7 #[.int .i64 a0, .int .i64 a1] w fun e w' => e = .returned (.bool true) ∧ Since w w' := by
  have f0 := fits_wf w0
  have f1 := fits_wf w1
  by_cases h0 : a1 = 0
  · subst h0
    have e1 := dbad_zero a0
    go_enter Try.func7, Try.ntmps7
    go_wp2_with (first
        | (go_at_call 10; refine (Alive01.true_any _).mono ?_; rintro e v1 ⟨rfl, hv1⟩)
        | (go_at_call 17; refine (Chk.floor_any _ _ (by first | assumption | decide | exact fits_val _) _).mono ?_; rintro e v2 ⟨rfl, hv2⟩)
        | (go_at_call 19; refine (Chk.ceil_any _ _ (by first | assumption | decide | exact fits_val _) _).mono ?_; rintro e v3 ⟨rfl, hv3⟩))
    go_ret
    exact ⟨rfl, (Since.trans ‹Since w _› (since_drew ‹_›)).trans (since_drew ‹_›)⟩
  by_cases ho : a0 = -9223372036854775808 ∧ a1 = -1
  · obtain ⟨rfl, rfl⟩ := ho
    have e1 := dbad_over
    clear h0
    go_enter Try.func7, Try.ntmps7
    go_wp2_with (first
        | (go_at_call 10; refine (Alive01.true_any _).mono ?_; rintro e v1 ⟨rfl, hv1⟩)
        | (go_at_call 17; refine (Chk.floor_any _ _ (by first | assumption | decide | exact fits_val _) _).mono ?_; rintro e v2 ⟨rfl, hv2⟩)
        | (go_at_call 19; refine (Chk.ceil_any _ _ (by first | assumption | decide | exact fits_val _) _).mono ?_; rintro e v3 ⟨rfl, hv3⟩))
    go_ret
    exact ⟨rfl, (Since.trans ‹Since w _› (since_drew ‹_›)).trans (since_drew ‹_›)⟩
  have e1 := dbad_ok h0 ho
  have hz : (a1 == 0) = false := by simpa using h0
  by_cases hr : rem a0 a1 = 0
  · obtain ⟨x1, x2, x3⟩ := rest_exact f0 h0 ho hr
    have fq := of_fits (quo_fits f0 ho)
    have HO := Lib.hid ho
    have f1' := of_fits f1
    clear hr h0
    by_cases la : (a0 == -9223372036854775808) = true
    · have lb : (a1 == -1) = false := by
        simp at la; simp [la] at ho; simpa using ho
      clear ho
      rcases (show 0 < a1 ∨ a1 < 0 by simp at hz; omega) with sg | sg
      · go_enter Try.func7, Try.ntmps7
        go_wp2_with (first
            | (go_at_call 10; refine (Alive01.true_any _).mono ?_; rintro e v1 ⟨rfl, hv1⟩)
            | (go_at_call 17; refine (Chk.floor_any _ _ (by first | assumption | decide | exact fits_val _) _).mono ?_; rintro e v2 ⟨rfl, hv2⟩)
            | (go_at_call 19; refine (Chk.ceil_any _ _ (by first | assumption | decide | exact fits_val _) _).mono ?_; rintro e v3 ⟨rfl, hv3⟩))
        go_ret
        exact ⟨rfl, (Since.trans ‹Since w _› (since_drew ‹_›)).trans (since_drew ‹_›)⟩
      · go_enter Try.func7, Try.ntmps7
        go_wp2_with (first
            | (go_at_call 10; refine (Alive01.true_any _).mono ?_; rintro e v1 ⟨rfl, hv1⟩)
            | (go_at_call 17; refine (Chk.floor_any _ _ (by first | assumption | decide | exact fits_val _) _).mono ?_; rintro e v2 ⟨rfl, hv2⟩)
            | (go_at_call 19; refine (Chk.ceil_any _ _ (by first | assumption | decide | exact fits_val _) _).mono ?_; rintro e v3 ⟨rfl, hv3⟩))
        go_ret
        exact ⟨rfl, (Since.trans ‹Since w _› (since_drew ‹_›)).trans (since_drew ‹_›)⟩
    · have la' : (a0 == -9223372036854775808) = false := by simpa using la
      clear ho la
      rcases (show 0 < a1 ∨ a1 < 0 by simp at hz; omega) with sg | sg
      · go_enter Try.func7, Try.ntmps7
        go_wp2_with (first
            | (go_at_call 10; refine (Alive01.true_any _).mono ?_; rintro e v1 ⟨rfl, hv1⟩)
            | (go_at_call 17; refine (Chk.floor_any _ _ (by first | assumption | decide | exact fits_val _) _).mono ?_; rintro e v2 ⟨rfl, hv2⟩)
            | (go_at_call 19; refine (Chk.ceil_any _ _ (by first | assumption | decide | exact fits_val _) _).mono ?_; rintro e v3 ⟨rfl, hv3⟩))
        go_ret
        exact ⟨rfl, (Since.trans ‹Since w _› (since_drew ‹_›)).trans (since_drew ‹_›)⟩
      · go_enter Try.func7, Try.ntmps7
        go_wp2_with (first
            | (go_at_call 10; refine (Alive01.true_any _).mono ?_; rintro e v1 ⟨rfl, hv1⟩)
            | (go_at_call 17; refine (Chk.floor_any _ _ (by first | assumption | decide | exact fits_val _) _).mono ?_; rintro e v2 ⟨rfl, hv2⟩)
            | (go_at_call 19; refine (Chk.ceil_any _ _ (by first | assumption | decide | exact fits_val _) _).mono ?_; rintro e v3 ⟨rfl, hv3⟩))
        go_ret
        exact ⟨rfl, (Since.trans ‹Since w _› (since_drew ‹_›)).trans (since_drew ‹_›)⟩
  · obtain ⟨r, s, x1, x2, x3, x4, x5, x6, x7⟩ := rest_some f0 f1 h0 ho hr
    have HO := Lib.hid ho
    have HR := Lib.hid hr
    have f1' := of_fits f1
    rw [x3] at x2
    have y1 : (flo a0 a1 + 1 == flo a0 a1) = false := by simp only [beq_eq_false_iff_ne]; omega
    clear hr h0
    rcases (show 0 < a1 ∨ a1 < 0 by simp at hz; omega) with sg | sg
    · obtain ⟨g1, g2, g3, g4⟩ := x6 sg
      have y2 : (r == 0) = false := by simp; omega
      clear x6 x7
      by_cases la : (a0 == -9223372036854775808) = true
      · have lb : (a1 == -1) = false := by
          simp at la; simp [la] at ho; simpa using ho
        clear ho
        go_enter Try.func7, Try.ntmps7
        go_wp2_with (first
            | (go_at_call 10; refine (Alive01.true_any _).mono ?_; rintro e v1 ⟨rfl, hv1⟩)
            | (go_at_call 17; refine (Chk.floor_any _ _ (by first | assumption | decide | exact fits_val _) _).mono ?_; rintro e v2 ⟨rfl, hv2⟩)
            | (go_at_call 19; refine (Chk.ceil_any _ _ (by first | assumption | decide | exact fits_val _) _).mono ?_; rintro e v3 ⟨rfl, hv3⟩))
        go_ret
        exact ⟨rfl, (Since.trans ‹Since w _› (since_drew ‹_›)).trans (since_drew ‹_›)⟩
      · have la' : (a0 == -9223372036854775808) = false := by simpa using la
        clear ho la
        go_enter Try.func7, Try.ntmps7
        go_wp2_with (first
            | (go_at_call 10; refine (Alive01.true_any _).mono ?_; rintro e v1 ⟨rfl, hv1⟩)
            | (go_at_call 17; refine (Chk.floor_any _ _ (by first | assumption | decide | exact fits_val _) _).mono ?_; rintro e v2 ⟨rfl, hv2⟩)
            | (go_at_call 19; refine (Chk.ceil_any _ _ (by first | assumption | decide | exact fits_val _) _).mono ?_; rintro e v3 ⟨rfl, hv3⟩))
        go_ret
        exact ⟨rfl, (Since.trans ‹Since w _› (since_drew ‹_›)).trans (since_drew ‹_›)⟩
    · obtain ⟨g1, g2, g3, g4⟩ := x7 sg
      have y2 : (r == 0) = false := by simp; omega
      clear x6 x7
      by_cases la : (a0 == -9223372036854775808) = true
      · have lb : (a1 == -1) = false := by
          simp at la; simp [la] at ho; simpa using ho
        clear ho
        go_enter Try.func7, Try.ntmps7
        go_wp2_with (first
            | (go_at_call 10; refine (Alive01.true_any _).mono ?_; rintro e v1 ⟨rfl, hv1⟩)
            | (go_at_call 17; refine (Chk.floor_any _ _ (by first | assumption | decide | exact fits_val _) _).mono ?_; rintro e v2 ⟨rfl, hv2⟩)
            | (go_at_call 19; refine (Chk.ceil_any _ _ (by first | assumption | decide | exact fits_val _) _).mono ?_; rintro e v3 ⟨rfl, hv3⟩))
        go_ret
        exact ⟨rfl, (Since.trans ‹Since w _› (since_drew ‹_›)).trans (since_drew ‹_›)⟩
      · have la' : (a0 == -9223372036854775808) = false := by simpa using la
        clear ho la
        go_enter Try.func7, Try.ntmps7
        go_wp2_with (first
            | (go_at_call 10; refine (Alive01.true_any _).mono ?_; rintro e v1 ⟨rfl, hv1⟩)
            | (go_at_call 17; refine (Chk.floor_any _ _ (by first | assumption | decide | exact fits_val _) _).mono ?_; rintro e v2 ⟨rfl, hv2⟩)
            | (go_at_call 19; refine (Chk.ceil_any _ _ (by first | assumption | decide | exact fits_val _) _).mono ?_; rintro e v3 ⟨rfl, hv3⟩))
        go_ret
        exact ⟨rfl, (Since.trans ‹Since w _› (since_drew ‹_›)).trans (since_drew ‹_›)⟩

set_option maxRecDepth 100000 in
theorem lifted (os : Os) (started : os.Started) (H : Type) (enc : TypeId × Value → H) :
    ReturnsInHanded {} Try.checked os 7 .any (Rows.checkRestsSpec.pre6 enc Try.prog Try.f7 Rows.checkRestsRow.domain false) (Rows.checkRestsSpec.post enc Try.prog Try.f7 false true false false) := by
  refine returnsInHanded_of_change (C := Try.checked) own started (by kernel_rfl) Try.func7
    (ChangeSpec.witness6 (enc := enc) (C := Try.checked) false ⟨#[], #[.int .i64 0, .int .i64 0], []⟩ 8 (by kernel_rfl) (by kernel_rfl) (by kernel_rfl) (by kernel_rfl)) ?_
  intro W base args ds gs before hval0 hW hcnd _
  have hval : ∀ (j : Nat) t v, Try.f7.params[j]? = some t → args[j]? = some v → Value.okWide Try.prog W .any base t v := hval0
  have hW' := hW
  obtain ⟨p, q, hA0, hV, rfl, hfz, hnd⟩ := hW
  have hA : DataW.TrodAll enc Try.prog W 0 (fun _ => true) true Try.f7.params.toList args.toList ds p := hA0
  rw [Try.params7] at hA hval
  obtain ⟨v0, vs0, d0, ds0, p0, q0, hargs, rfl, rfl, h0, r0⟩ := trodAll_cons hA
  obtain ⟨v1, vs1, d1, ds1, p1, q1, rfl, rfl, rfl, h1, r1⟩ := trodAll_cons r0
  obtain ⟨rfl, rfl, rfl⟩ := trodAll_nil r1
  obtain rfl : args = #[v0, v1] := by cases args; simp_all
  obtain ⟨rfl, rfl⟩ := trodVars_none hV
  obtain ⟨a0, rfl, rfl, rfl, w0⟩ := open_int Try.underlying2 (hval 0 2 v0 rfl rfl) h0
  obtain ⟨a1, rfl, rfl, rfl, w1⟩ := open_int Try.underlying2 (hval 1 2 v1 rfl rfl) h1
  clear hA0 hval0
  simp only [List.append_nil] at hW'
  refine (walk a0 a1 w0 w1 W).mono fun e W' ⟨he, bel⟩ => ?_
  subst he
  exact ⟨_, rfl, _, _, _, [], [], [], hW', (trodAll_cons_mk (shut_bool Try.underlying4 _) trodAll_mk0), (trodAll_cons_mk (shut_int Try.underlying2 w0) (trodAll_cons_mk (shut_int Try.underlying2 w1) trodAll_mk0)), rfl, Below.frame bel _, fun h => by cases h⟩

theorem over : Rows.checkRestsRow.holds Try.pinned (OpenSpec.ofChange Rows.checkRestsSpec) :=
  OpenClaim.holds_of_wide 7 Try.f7 rfl rfl rfl rfl rfl rfl rfl ⟨rfl, rfl, rfl, rfl, rfl⟩ rfl rfl rfl rfl rfl (by kernel_rfl) Try.func7 (by kernel_rfl)
    (of_decide_eq_true (by kernel_rfl)) (by unfold Func.isWrapper; first | (rw [if_pos (by decide +kernel)]; kernel_rfl) | (rw [if_neg (by decide +kernel)]; exact ⟨rfl, rfl⟩))
    (fun os started H enc _ => lifted os started H enc)

/-- THE STATEMENT -/
theorem proved : Rows.CheckRestsSaid :=
  over
#print axioms proved
end Go.Proofs.Ytodianconjkpoaa.checkRests
