/-
  For all 64-bit numbers a, b and c: the law CheckSpread returns true (a product of a sum is the sum of the products where all fit). No condition.
-/
import Derived.Test.YtodianconjkpoaaRows
import Derived.WalkKit
import Derived.ProofKit
import Derived.OpenShut
import Derived.ShutString
import Derived.Test.YtodianconjkpoaaAlive01
namespace Go.Proofs.Ytodianconjkpoaa.checkSpread
open Go.ChangeShapes Go.WideShapes Go.ChangeAt Go.RowKit
open Go.ChangeMaps (open_string shut_string)
open Go.Proofs.Ytodianconjkpoaa.Num
open Go.Proofs.Ytodianconjkpoaa.Chk (Drew)
set_option linter.unusedVariables false

theorem own : ownKnob Try.prog.godebug = none := by kernel_rfl

theorem walk (a0 : Int) (a1 : Int) (a2 : Int) (w0 : (Lit.int .i64 a0).wf = true) (w1 : (Lit.int .i64 a1).wf = true) (w2 : (Lit.int .i64 a2).wf = true) (w : World) :
    Calls Try.prog 9 #[.int .i64 a0, .int .i64 a1, .int .i64 a2] w fun e w' => e = .returned (.bool true) ∧ Since w w' := by
  have f0 := fits_wf w0
  have f1 := fits_wf w1
  have f2 := fits_wf w2
  by_cases c1 : fits (a0 + a1) = true
  · have e1 := err_in c1
    have v1 := val_in c1
    by_cases c2 : fits ((a0 + a1) * a2) = true
    · have e2 := err_in c2
      have v2 := val_in c2
      by_cases c3 : fits (a0 * a2) = true
      · have e3 := err_in c3
        have v3 := val_in c3
        by_cases c4 : fits (a1 * a2) = true
        · have e4 := err_in c4
          have v4 := val_in c4
          have c5 : fits (a0 * a2 + a1 * a2) = true := by rw [← Int.add_mul]; exact c2
          have e5 := err_in c5
          have v5 := val_in c5
          have y : ((a0 + a1) * a2 == a0 * a2 + a1 * a2) = true := by rw [Int.add_mul]; simp
          go_enter Try.func9, Try.ntmps9
          go_wp2_with (first
              | (go_at_call 10; refine (Alive01.true_any _).mono ?_; rintro e v1 ⟨rfl, hv1⟩)
              | (go_at_call 11; refine (Chk.add_any _ _ (by first | assumption | decide | exact fits_val _) (by first | assumption | decide | exact fits_val _) _).mono ?_; rintro e v ⟨rfl, rfl⟩)
              | (go_at_call 15; refine (Chk.mul_any _ _ (by first | assumption | decide | exact fits_val _) (by first | assumption | decide | exact fits_val _) _).mono ?_; rintro e v ⟨rfl, rfl⟩))
          go_ret
          exact ⟨rfl, ‹_›⟩
        · have d4 : fits (a1 * a2) = false := by simpa using c4
          have e4 := err_out d4
          have v4 := val_out d4
          clear c4
          go_enter Try.func9, Try.ntmps9
          go_wp2_with (first
              | (go_at_call 10; refine (Alive01.true_any _).mono ?_; rintro e v1 ⟨rfl, hv1⟩)
              | (go_at_call 11; refine (Chk.add_any _ _ (by first | assumption | decide | exact fits_val _) (by first | assumption | decide | exact fits_val _) _).mono ?_; rintro e v ⟨rfl, rfl⟩)
              | (go_at_call 15; refine (Chk.mul_any _ _ (by first | assumption | decide | exact fits_val _) (by first | assumption | decide | exact fits_val _) _).mono ?_; rintro e v ⟨rfl, rfl⟩))
          go_ret
          exact ⟨rfl, ‹_›⟩
      · have d3 : fits (a0 * a2) = false := by simpa using c3
        have e3 := err_out d3
        have v3 := val_out d3
        clear c3
        go_enter Try.func9, Try.ntmps9
        go_wp2_with (first
            | (go_at_call 10; refine (Alive01.true_any _).mono ?_; rintro e v1 ⟨rfl, hv1⟩)
            | (go_at_call 11; refine (Chk.add_any _ _ (by first | assumption | decide | exact fits_val _) (by first | assumption | decide | exact fits_val _) _).mono ?_; rintro e v ⟨rfl, rfl⟩)
            | (go_at_call 15; refine (Chk.mul_any _ _ (by first | assumption | decide | exact fits_val _) (by first | assumption | decide | exact fits_val _) _).mono ?_; rintro e v ⟨rfl, rfl⟩))
        go_ret
        exact ⟨rfl, ‹_›⟩
    · have d2 : fits ((a0 + a1) * a2) = false := by simpa using c2
      have e2 := err_out d2
      have v2 := val_out d2
      clear c2
      go_enter Try.func9, Try.ntmps9
      go_wp2_with (first
          | (go_at_call 10; refine (Alive01.true_any _).mono ?_; rintro e v1 ⟨rfl, hv1⟩)
          | (go_at_call 11; refine (Chk.add_any _ _ (by first | assumption | decide | exact fits_val _) (by first | assumption | decide | exact fits_val _) _).mono ?_; rintro e v ⟨rfl, rfl⟩)
          | (go_at_call 15; refine (Chk.mul_any _ _ (by first | assumption | decide | exact fits_val _) (by first | assumption | decide | exact fits_val _) _).mono ?_; rintro e v ⟨rfl, rfl⟩))
      go_ret
      exact ⟨rfl, ‹_›⟩
  · have d1 : fits (a0 + a1) = false := by simpa using c1
    have e1 := err_out d1
    have v1 := val_out d1
    clear c1
    go_enter Try.func9, Try.ntmps9
    go_wp2_with (first
        | (go_at_call 10; refine (Alive01.true_any _).mono ?_; rintro e v1 ⟨rfl, hv1⟩)
        | (go_at_call 11; refine (Chk.add_any _ _ (by first | assumption | decide | exact fits_val _) (by first | assumption | decide | exact fits_val _) _).mono ?_; rintro e v ⟨rfl, rfl⟩)
        | (go_at_call 15; refine (Chk.mul_any _ _ (by first | assumption | decide | exact fits_val _) (by first | assumption | decide | exact fits_val _) _).mono ?_; rintro e v ⟨rfl, rfl⟩))
    go_ret
    exact ⟨rfl, ‹_›⟩

set_option maxRecDepth 100000 in
theorem lifted (os : Os) (started : os.Started) (H : Type) (enc : TypeId × Value → H) :
    ReturnsInHanded {} Try.checked os 9 .any (Rows.checkSpreadSpec.pre6 enc Try.prog Try.f9 Rows.checkSpreadRow.domain false) (Rows.checkSpreadSpec.post enc Try.prog Try.f9 false true false false) := by
  refine returnsInHanded_of_change (C := Try.checked) own started (by kernel_rfl) Try.func9
    (ChangeSpec.witness6 (enc := enc) (C := Try.checked) false ⟨#[], #[.int .i64 0, .int .i64 0, .int .i64 0], []⟩ 8 (by kernel_rfl) (by kernel_rfl) (by kernel_rfl) (by kernel_rfl)) ?_
  intro W base args ds gs before hval0 hW hcnd _
  have hval : ∀ (j : Nat) t v, Try.f9.params[j]? = some t → args[j]? = some v → Value.okWide Try.prog W .any base t v := hval0
  have hW' := hW
  obtain ⟨p, q, hA0, hV, rfl, hfz, hnd⟩ := hW
  have hA : DataW.TrodAll enc Try.prog W 0 (fun _ => true) true Try.f9.params.toList args.toList ds p := hA0
  rw [Try.params9] at hA hval
  obtain ⟨v0, vs0, d0, ds0, p0, q0, hargs, rfl, rfl, h0, r0⟩ := trodAll_cons hA
  obtain ⟨v1, vs1, d1, ds1, p1, q1, rfl, rfl, rfl, h1, r1⟩ := trodAll_cons r0
  obtain ⟨v2, vs2, d2, ds2, p2, q2, rfl, rfl, rfl, h2, r2⟩ := trodAll_cons r1
  obtain ⟨rfl, rfl, rfl⟩ := trodAll_nil r2
  obtain rfl : args = #[v0, v1, v2] := by cases args; simp_all
  obtain ⟨rfl, rfl⟩ := trodVars_none hV
  obtain ⟨a0, rfl, rfl, rfl, w0⟩ := open_int Try.underlying2 (hval 0 2 v0 rfl rfl) h0
  obtain ⟨a1, rfl, rfl, rfl, w1⟩ := open_int Try.underlying2 (hval 1 2 v1 rfl rfl) h1
  obtain ⟨a2, rfl, rfl, rfl, w2⟩ := open_int Try.underlying2 (hval 2 2 v2 rfl rfl) h2
  clear hA0 hval0
  simp only [List.append_nil] at hW'
  refine (walk a0 a1 a2 w0 w1 w2 W).mono fun e W' ⟨he, bel⟩ => ?_
  subst he
  exact ⟨_, rfl, _, _, _, [], [], [], hW', (trodAll_cons_mk (shut_bool Try.underlying4 _) trodAll_mk0), (trodAll_cons_mk (shut_int Try.underlying2 w0) (trodAll_cons_mk (shut_int Try.underlying2 w1) (trodAll_cons_mk (shut_int Try.underlying2 w2) trodAll_mk0))), rfl, Below.frame bel _, fun h => by cases h⟩

theorem over : Rows.checkSpreadRow.holds Try.pinned (OpenSpec.ofChange Rows.checkSpreadSpec) :=
  OpenClaim.holds_of_wide 9 Try.f9 rfl rfl rfl rfl rfl rfl rfl ⟨rfl, rfl, rfl, rfl, rfl⟩ rfl rfl rfl rfl rfl (by kernel_rfl) Try.func9 (by kernel_rfl)
    (of_decide_eq_true (by kernel_rfl)) (by unfold Func.isWrapper; first | (rw [if_pos (by decide +kernel)]; kernel_rfl) | (rw [if_neg (by decide +kernel)]; exact ⟨rfl, rfl⟩))
    (fun os started H enc _ => lifted os started H enc)

/-- THE STATEMENT -/
theorem proved : Rows.CheckSpreadSaid :=
  over
#print axioms proved
end Go.Proofs.Ytodianconjkpoaa.checkSpread
