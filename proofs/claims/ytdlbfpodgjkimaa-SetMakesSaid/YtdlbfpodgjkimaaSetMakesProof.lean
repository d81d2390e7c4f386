/-
  For all ranges l: the law SetMakes returns true (which ranges are a set, and what they have together, is told as the document says). No condition.
-/
import Derived.Test.YtdlbfpodgjkimaaRows
import Derived.WalkKit
import Derived.ProofKit
import Derived.OpenShut
import Derived.ShutString
import Derived.ChangeOld
import Derived.Below
import Derived.Test.YtdlbfpodgjkimaaEy
namespace Go.Proofs.Ytdlbfpodgjkimaa.setMakes
open Go.ChangeShapes Go.WideShapes Go.ChangeAt Go.RowKit
open Go.ChangeMaps (open_string shut_string)
open Go.Proofs.Ytdlbfpodgjkimaa.Dig Go.Proofs.Ytdlbfpodgjkimaa.Zs
open Go.Proofs.Ytdlbfpodgjkimaa.Ti (Sl QR stR)
set_option linter.unusedVariables false

theorem own : ownKnob Try.prog.godebug = none := by kernel_rfl
theorem laidOut : laidOutB Try.prog = true := by kernel_rfl

/-- WHAT THE WALK IS TOLD OF A SLICE OF INTEGERS THAT CAME IN: it is nil; or it leads to a row of 'cap' cells, the numbers 'zs' (the first 'len' are its elements, the rest its spare room), each fitting its kind. -/
def IsRow (k : IntKind) (w : World) (a : Option Addr) (len cap : Nat) (zs : List Int) : Prop :=
  (a = none ∧ len = 0 ∧ cap = 0 ∧ zs = []) ∨
  ∃ x, a = some x ∧ len ≤ cap ∧ cap ≤ maxLen ∧ zs.length = cap ∧ (∀ i, i < zs.length → w.cell? (x.add i) = some (.int k (zs.getD i 0))) ∧ ∀ n ∈ zs, (Lit.int k n).wf = true

set_option maxHeartbeats 1000000 in
theorem walk (a0 : Option Addr) (len0 cap0 : Nat) (z0 : List Go.Proofs.Ytdlbfpodgjkimaa.Zs.Rn) (w : World) (w0 : Go.Proofs.Ytdlbfpodgjkimaa.Zs.RangesIn w a0 len0 cap0 z0) :
    Calls Try.prog 3 #[.slice a0 len0 cap0] w fun e w' => e = .returned (.bool true) ∧ Since w w' := by
  obtain ⟨hn, hS, hB, hM⟩ := w0
  subst hn
  have AL := Lib.hid (alive_any w)
  by_cases hbig : z0.length > 300
  · clear hS hB hM
    go_enter Try.func3, Try.ntmps3
    go_wp2_with (go_at_call 10; (with_reducible refine AL.out.mono ?_); rintro e w1 ⟨rfl, k1⟩)
    go_ret
    exact ⟨rfl, k1⟩
  · obtain ⟨rb, hrb⟩ : ∃ rb, right z0 = rb := ⟨_, rfl⟩
    have RA := Lib.hid (fun W k => right_at hS (by omega) hB hrb W k)
    have RB := Lib.hid (fun W k => rright_at hS (by omega) hB hrb W k)
    cases hR : ofD [] z0 with
    | none =>
      have OA := Lib.hid (fun W k => of_no hS (by omega) hR W k)
      have OB := Lib.hid (fun W k => rof_no hS (by omega) hR W k)
      clear hS hB hM hR hrb
      go_enter Try.func3, Try.ntmps3
      go_wp2_with (first
        | (go_at_call 10; (with_reducible refine AL.out.mono ?_); rintro e w1 ⟨rfl, k1⟩)
        | (go_at_call 11; (with_reducible refine (OA.out _ k1).mono ?_); rintro e w2 ⟨A2, c2, rfl, h2, k2⟩; have k12 := k1.trans k2)
        | (go_at_call 12; (with_reducible refine (OB.out _ k12).mono ?_); rintro e w3 ⟨A3, c3, rfl, h3, k3⟩; have k13 := k12.trans k3; have h23 := h2.since stR k3)
        | (go_at_call 13; (with_reducible refine (ranges_yes h23 h3 (by simp)).mono ?_); rintro e w4 ⟨rfl, k4⟩; have k14 := k13.trans k4)
        | (go_at_call 14; (with_reducible refine (RA.out _ k14).mono ?_); rintro e w5 ⟨rfl, k5⟩; have k15 := k14.trans k5)
        | (go_at_call 15; (with_reducible refine (RB.out _ k15).mono ?_); rintro e w6 ⟨rfl, k6⟩; have k16 := k15.trans k6))
      go_ret
      exact ⟨by simp, k16⟩
    | some d =>
      have OA := Lib.hid (fun W k => of_yes hS (by omega) hR W k)
      have OB := Lib.hid (fun W k => rof_yes hS (by omega) hR W k)
      have HD := Lib.hid (of_right hR)
      have HL := Lib.hid (show d.length ≤ 300 from Nat.le_trans (ofD_len hR) (by simp; omega))
      have RC := Lib.hid (fun (v : Value) (W : World) (h : Sl 2 QR W v d) => show Calls Try.prog 14 #[v] W (RetT true W) from HD.out ▸ right_any v d W h (by have := HL.out; omega) (okF_bd HD.out (Int.le_refl _)))
      clear hS hB hM hR hrb HD
      go_enter Try.func3, Try.ntmps3
      go_wp2_with (first
        | (go_at_call 10; (with_reducible refine AL.out.mono ?_); rintro e w1 ⟨rfl, k1⟩)
        | (go_at_call 11; (with_reducible refine (OA.out _ k1).mono ?_); rintro e w2 ⟨A2, m2, c2, rfl, hm2, h2, k2⟩; have k12 := k1.trans k2)
        | (go_at_call 12; (with_reducible refine (OB.out _ k12).mono ?_); rintro e w3 ⟨A3, m3, c3, rfl, hm3, h3, k3⟩; have k13 := k12.trans k3; have h23 := h2.since stR k3)
        | (go_at_call 13; (with_reducible refine (ranges_yes h23 h3 (by have := HL.out; omega)).mono ?_); rintro e w4 ⟨rfl, k4⟩; have k14 := k13.trans k4)
        | (go_at_call 14; (with_reducible refine (RA.out _ k14).mono ?_); rintro e w5 ⟨rfl, k5⟩; have k15 := k14.trans k5)
        | (go_at_call 15; (with_reducible refine (RB.out _ k15).mono ?_); rintro e w6 ⟨rfl, k6⟩; have k16 := k15.trans k6; have h26 := h23.since stR ((k4.trans k5).trans k6))
        | (go_at_call 14; (with_reducible refine (RC.out _ _ h26).mono ?_); rintro e w7 ⟨rfl, k7⟩; have k17 := k16.trans k7))
      go_ret
      exact ⟨by simp, k17⟩

set_option maxRecDepth 100000 in
theorem lifted (os : Os) (started : os.Started) (H : Type) (enc : TypeId × Value → H) :
    ReturnsInHanded {} Try.checked os 3 .any (Rows.setMakesSpec.pre6 enc Try.prog Try.f3 Rows.setMakesRow.domain false) (Rows.setMakesSpec.post enc Try.prog Try.f3 false true false false) := by
  refine returnsInHanded_of_change (C := Try.checked) own started (by kernel_rfl) Try.func3
    (ChangeSpec.witness6 (enc := enc) (C := Try.checked) false ⟨#[], #[.slice none 0 0], []⟩ 8 (by kernel_rfl) (by kernel_rfl) (by kernel_rfl) (by kernel_rfl)) ?_
  intro W base args ds gs before hval0 hW hcnd _
  have hval : ∀ (j : Nat) t v, Try.f3.params[j]? = some t → args[j]? = some v → Value.okWide Try.prog W .any base t v := hval0
  have hW' := hW
  obtain ⟨p, q, hA0, hV, rfl, hfz, hnd⟩ := hW
  have hA : DataW.TrodAll enc Try.prog W 0 (fun _ => true) true Try.f3.params.toList args.toList ds p := hA0
  rw [Try.params3] at hA hval
  obtain ⟨v0, vs0, d0, ds0, p0, q0, hargs, rfl, rfl, h0, r0⟩ := trodAll_cons hA
  obtain ⟨rfl, rfl, rfl⟩ := trodAll_nil r0
  obtain rfl : args = #[v0] := by cases args; simp_all
  obtain ⟨rfl, rfl⟩ := trodVars_none hV
  obtain ⟨a0, len0, cap0, rfl⟩ := okWide_slice Try.underlying22 (hval 0 22 v0 rfl rfl)
  have k0 := h0
  have lt0 : ∀ x ∈ p0, x.block < W.heap.size := by obtain ⟨m, hm⟩ := k0; exact DataW.trod_lt m _ _ _ hm
  obtain ⟨z0, w0⟩ : ∃ zs, Go.Proofs.Ytdlbfpodgjkimaa.Zs.RangesIn W a0 len0 cap0 zs := by
    obtain ⟨fuel, hf⟩ := h0
    exact Go.Proofs.Ytdlbfpodgjkimaa.Zs.ranges_in Try.underlying22 Try.underlying32 (by kernel_rfl) rfl rfl (by kernel_rfl) (by kernel_rfl) Try.underlying2 Try.underlying2 hf
  clear hA0 hval0
  refine (walk a0 len0 cap0 z0 W w0).mono fun e W' ⟨he, bel⟩ => ?_
  subst he
  exact ⟨_, rfl, _, _, _, [], _, [], hW', trodAll_mk1 (shut_bool Try.underlying4 _), (trodAll_cons_mk (Below.trod laidOut (by kernel_rfl) (of_decide_eq_true (by kernel_rfl)) k0 bel lt0) trodAll_mk0), rfl, bel.frame _, fun h => by cases h⟩

theorem over : Rows.setMakesRow.holds Try.pinned (OpenSpec.ofChange Rows.setMakesSpec) :=
  OpenClaim.holds_of_wide 3 Try.f3 rfl rfl rfl rfl rfl rfl rfl ⟨rfl, rfl, rfl, rfl, rfl⟩ rfl rfl rfl rfl rfl (by kernel_rfl) Try.func3 (by kernel_rfl)
    (of_decide_eq_true (by kernel_rfl)) (by unfold Func.isWrapper; first | (rw [if_pos (by decide +kernel)]; kernel_rfl) | (rw [if_neg (by decide +kernel)]; exact ⟨rfl, rfl⟩))
    (fun os started H enc _ => lifted os started H enc)

/-- THE STATEMENT -/
theorem proved : Rows.SetMakesSaid := over
#print axioms proved
end Go.Proofs.Ytdlbfpodgjkimaa.setMakes
