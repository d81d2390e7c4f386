/-
  For all constraints and places: the law SenseKin returns true (a constraint with a flag says of its row what its kin without the flag says). No condition.
-/
import Derived.Test.YtfcinefmnigacaaRows
import Derived.WalkKit
import Derived.ProofKit
import Derived.OpenShut
import Derived.ShutString
import Derived.ChangeOld
import Derived.Below
import Derived.Test.YtfcinefmnigacaaUz
import Derived.Test.YtfcinefmnigacaaKf
namespace Go.Proofs.Ytfcinefmnigacaa.senseKin
open Go.ChangeShapes Go.WideShapes Go.ChangeAt Go.RowKit
open Go.ChangeMaps (open_string shut_string)
open Go.Proofs.Ytfcinefmnigacaa.Dig Go.Proofs.Ytfcinefmnigacaa.Zs Go.Proofs.Ytfcinefmnigacaa.Tr Go.Proofs.Ytfcinefmnigacaa.Sn
open Go.Proofs.Ytfcinefmnigacaa.Ti (Sl QR stR)
set_option linter.unusedVariables false

theorem own : ownKnob Try.prog.godebug = none := by kernel_rfl
theorem laidOut : laidOutB Try.prog = true := by kernel_rfl

/-- WHAT THE WALK IS TOLD OF A SLICE OF INTEGERS THAT CAME IN: it is nil; or it leads to a row of 'cap' cells, the numbers 'zs' (the first 'len' are its elements, the rest its spare room), each fitting its kind. -/
def IsRow (k : IntKind) (w : World) (a : Option Addr) (len cap : Nat) (zs : List Int) : Prop :=
  (a = none ∧ len = 0 ∧ cap = 0 ∧ zs = []) ∨
  ∃ x, a = some x ∧ len ≤ cap ∧ cap ≤ maxLen ∧ zs.length = cap ∧ (∀ i, i < zs.length → w.cell? (x.add i) = some (.int k (zs.getD i 0))) ∧ ∀ n ∈ zs, (Lit.int k n).wf = true

set_option maxRecDepth 100000 in
set_option maxHeartbeats 3000000 in
theorem walk (k0k : Int) (X0 : Option Addr) (n0 xc0 : Nat) (Y0 : Option Addr) (m0 yc0 : Nat) (e0 : Int) (z0 : Go.Proofs.Ytfcinefmnigacaa.Sn.Cn) (a1 : Option Addr) (len1 cap1 : Nat) (z1 : List Int) (w : World) (w0 : Go.Proofs.Ytfcinefmnigacaa.Sn.ConIn w k0k X0 n0 xc0 Y0 m0 yc0 e0 z0) (w1 : Go.Proofs.Ytfcinefmnigacaa.Sn.IntsIn w a1 len1 cap1 z1) :
    Calls Try.prog 5 #[.agg #[.int .i64 k0k, .slice X0 n0 xc0, .slice Y0 m0 yc0, .int .i64 e0], .slice a1 len1 cap1] w fun e w' => e = .returned (.bool true) ∧ Since w w' := by
  obtain ⟨hC, hBC, hcx, hca⟩ := w0
  obtain ⟨hl1, hA, hBA, hlA⟩ := w1
  subst hl1
  have AL := Lib.hid alive_any
  obtain ⟨hk0, he0, hX, hY, hn, hm⟩ := con_open hC
  have HK0 := Lib.hid hk0
  have HE0 := Lib.hid he0
  have HN := Lib.hid hn
  have HM := Lib.hid hm
  clear hk0 he0 hn hm
  have FI := Lib.hid (fun W (k : Since w W) => fits_any _ _ z0 z1 W (hC.since k) (hA.since stI k) (mlen hcx) (mlen hca) (mlen hlA))
  obtain ⟨f, hf⟩ : ∃ f, fitsL z0 z1 = f := ⟨_, rfl⟩
  rw [hf] at FI
  have S0 := Lib.hid (since_alloc w (.cells #[.int .i64 k0k, .slice X0 n0 xc0, .slice Y0 m0 yc0, .int .i64 e0] 25))
  have B0 := Lib.hid (Bx.fresh w #[.int .i64 k0k, .slice X0 n0 xc0, .slice Y0 m0 yc0, .int .i64 e0] 25)
  cases f with
  | false =>
    clear hf hC hA hX hY
    go_enter Try.func5, Try.ntmps5
    go_wp2_with (first | (go_at_call 10; (with_reducible refine (AL.out _).mono ?_); rintro e w1 ⟨rfl, k1⟩; have K1 := Lib.hid k1; have T1 := Lib.hid (S0.out.trans k1); obtain ⟨b0, b1, b2, b3⟩ := bx4 (B0.out.since k1); clear k1) | (go_at_call 11; (with_reducible refine (FI.out _ T1.out).mono ?_); rintro e w2 ⟨rfl, k2⟩; have T2 := Lib.hid (T1.out.trans k2); have U2 := Lib.hid (K1.out.trans k2); clear k2; obtain ⟨b0, b1, b2, b3⟩ := bx4 (B0.out.since U2.out)))
    go_ret
    exact ⟨rfl, T2.out⟩
  | true =>
    obtain ⟨hf1, hf2, hf3⟩ := fitsL_parts hf
    clear hf
    by_cases c4 : k0k < 4
    case pos =>
      clear hC hA hX hY
      go_enter Try.func5, Try.ntmps5
      go_wp2_with (first | (go_at_call 10; (with_reducible refine (AL.out _).mono ?_); rintro e w1 ⟨rfl, k1⟩; have K1 := Lib.hid k1; have T1 := Lib.hid (S0.out.trans k1); obtain ⟨b0, b1, b2, b3⟩ := bx4 (B0.out.since k1); clear k1) | (go_at_call 11; (with_reducible refine (FI.out _ T1.out).mono ?_); rintro e w2 ⟨rfl, k2⟩; have T2 := Lib.hid (T1.out.trans k2); have U2 := Lib.hid (K1.out.trans k2); clear k2; obtain ⟨b0, b1, b2, b3⟩ := bx4 (B0.out.since U2.out)))
      go_ret
      exact ⟨rfl, T2.out⟩
    by_cases c6 : k0k > 6
    case pos =>
      clear hC hA hX hY
      go_enter Try.func5, Try.ntmps5
      go_wp2_with (first | (go_at_call 10; (with_reducible refine (AL.out _).mono ?_); rintro e w1 ⟨rfl, k1⟩; have K1 := Lib.hid k1; have T1 := Lib.hid (S0.out.trans k1); obtain ⟨b0, b1, b2, b3⟩ := bx4 (B0.out.since k1); clear k1) | (go_at_call 11; (with_reducible refine (FI.out _ T1.out).mono ?_); rintro e w2 ⟨rfl, k2⟩; have T2 := Lib.hid (T1.out.trans k2); have U2 := Lib.hid (K1.out.trans k2); clear k2; obtain ⟨b0, b1, b2, b3⟩ := bx4 (B0.out.since U2.out)))
      go_ret
      exact ⟨rfl, T2.out⟩
    obtain ⟨q, hq⟩ : ∃ q, asked z0 z1 = q := ⟨_, rfl⟩
    have AK := Lib.hid (fun W (k : Since w W) => rasked_any _ _ z0 z1 W (hC.since k) (hA.since stI k) (by omega) (by omega) (by omega))
    rw [hq] at AK
    cases q with
    | false =>
      clear hC hA hX hY hq
      go_enter Try.func5, Try.ntmps5
      go_wp2_with (first | (go_at_call 10; (with_reducible refine (AL.out _).mono ?_); rintro e w1 ⟨rfl, k1⟩; have K1 := Lib.hid k1; have T1 := Lib.hid (S0.out.trans k1); obtain ⟨b0, b1, b2, b3⟩ := bx4 (B0.out.since k1); clear k1) | (go_at_call 11; (with_reducible refine (FI.out _ T1.out).mono ?_); rintro e w2 ⟨rfl, k2⟩; have T2 := Lib.hid (T1.out.trans k2); have U2 := Lib.hid (K1.out.trans k2); clear k2; obtain ⟨b0, b1, b2, b3⟩ := bx4 (B0.out.since U2.out)) | (go_at_call 21; (with_reducible refine (AK.out _ T2.out).mono ?_); rintro e w3 ⟨rfl, k3⟩; have T3 := Lib.hid (T2.out.trans k3); have U3 := Lib.hid (U2.out.trans k3); clear k3; obtain ⟨b0, b1, b2, b3⟩ := bx4 (B0.out.since U3.out); have aa : ∀ cs t, _ := fun cs t => bx4 ((B0.out.since U3.out).since (since_alloc w3 (.cells cs t))); obtain ⟨a0, a1, a2, a3⟩ : (∀ cs t, (w3.alloc (.cells cs t)).cell? ⟨w.heap.size, 0, none⟩ = some _) ∧ (∀ cs t, (w3.alloc (.cells cs t)).cell? ⟨w.heap.size, 1, none⟩ = some _) ∧ (∀ cs t, (w3.alloc (.cells cs t)).cell? ⟨w.heap.size, 2, none⟩ = some _) ∧ (∀ cs t, (w3.alloc (.cells cs t)).cell? ⟨w.heap.size, 3, none⟩ = some _) := ⟨fun cs t => (aa cs t).1, fun cs t => (aa cs t).2.1, fun cs t => (aa cs t).2.2.1, fun cs t => (aa cs t).2.2.2⟩; clear aa))
      go_ret
      exact ⟨rfl, T3.out⟩
    | true =>
      have hk3 : z0.k = 4 ∨ z0.k = 5 ∨ z0.k = 6 := by have := HK0.out; omega
      have hpos := (plain_holds hq hk3).2
      obtain ⟨j, hj⟩ : ∃ j, z0.x.length = j + 1 := ⟨z0.x.length - 1, by omega⟩
      have hnj : n0 = j + 1 := by have := HN.out; omega
      subst hnj
      have hjl : j < z0.x.length := by omega
      have hin := List.all_eq_true.1 (asked_parts hq).1 _ (List.getElem_mem hjl)
      obtain ⟨y, hy⟩ : ∃ y, y = z0.x[j] := ⟨_, rfl⟩
      rw [← hy] at hin
      obtain ⟨p, rfl, hp⟩ := isV_nat hin
      obtain ⟨z, hz⟩ : ∃ z, z = z1[p] := ⟨_, rfl⟩
      have hlast : lastV (vals z0.x z1) = z := by rw [flag_at_last hj, show z0.x.getD j 0 = (p : Int) by rw [hy]; simp [List.getD, hjl], hz]; simp [valAt, hp]
      have hcap : j ≤ xc0 := by have := hX.at_.2; omega
      have hcap2 : j + 1 ≤ xc0 := by have := hX.at_.2; omega
      obtain ⟨gx, ox, rfl, -⟩ := elI hX hjl
      obtain ⟨gy, oy, hAA, -⟩ := elI hA hp
      subst hAA
      have CX := Lib.hid (fun W (k : Since w W) => show W.cell? ⟨gx, ox + j, none⟩ = some (.int .i64 (p : Int)) by obtain ⟨g', o', h', e'⟩ := elI (hX.since stI k) hjl; cases h'; rw [hy]; exact e')
      have CA := Lib.hid (fun W (k : Since w W) => show W.cell? ⟨gy, oy + p, none⟩ = some (.int .i64 z) by obtain ⟨g', o', h', e'⟩ := elI (hA.since stI k) hp; cases h'; rw [hz]; exact e')
      obtain ⟨P, hP⟩ : ∃ P, holds (plainC z0) z1 = P := ⟨_, rfl⟩
      obtain ⟨R, hR⟩ : ∃ R, holds z0 z1 = R := ⟨_, rfl⟩
      have HH := Lib.hid (fun W (k : Since w W) => holds_at hC hA (by omega) (by omega) hR W k)
      have hcd : ∀ (kk : Int) W, kk = (plainC z0).k → Since w W → ConAt W (.agg #[.int .i64 kk, .slice (some ⟨gx, ox, none⟩) j xc0, .slice Y0 m0 yc0, .int .i64 e0]) (plainC z0) := fun kk W hkk k => ⟨.slice (some ⟨gx, ox, none⟩) j xc0, .slice Y0 m0 yc0, by rw [hkk, HE0.out]; rfl, by have := slTakeI (hX.since stI k) j (by omega); rw [show (plainC z0).x = z0.x.take j by simp only [plainC]; rw [show z0.x.length - 1 = j by omega]]; exact this, hY.since stI k⟩
      have HP := Lib.hid (fun (kk : Int) W (hkk : kk = (plainC z0).k) (k : Since w W) => holds_at (hcd kk W hkk k) (hA.since stI k) (by simp only [plainC]; omega) (by omega) hP W (Since.refl W))
      have HXL := Lib.hid hX
      have hq2 := hq
      have hk5 : k0k = 4 ∨ k0k = 5 ∨ k0k = 6 := by have := HK0.out; omega
      by_cases cz : z = 1
      · have hfl : flg (vals z0.x z1) = true := by rw [flg, hlast, cz]; rfl
        have E := Lib.hid (kin_yes hq hk3 hfl)
        rw [hR, hP] at E
        subst cz
        clear hfl hk3
        rcases hk5 with rfl | rfl | rfl
        all_goals
          clear hC hA hX hY hq hq2 hy hlast hP hR hcd hin hjl hpos hz
          go_enter Try.func5, Try.ntmps5
          go_wp2_with (first | (go_at_call 10; (with_reducible refine (AL.out _).mono ?_); rintro e w1 ⟨rfl, k1⟩; have K1 := Lib.hid k1; have T1 := Lib.hid (S0.out.trans k1); obtain ⟨b0, b1, b2, b3⟩ := bx4 (B0.out.since k1); clear k1) | (go_at_call 11; (with_reducible refine (FI.out _ T1.out).mono ?_); rintro e w2 ⟨rfl, k2⟩; have T2 := Lib.hid (T1.out.trans k2); have U2 := Lib.hid (K1.out.trans k2); clear k2; obtain ⟨b0, b1, b2, b3⟩ := bx4 (B0.out.since U2.out)) | (go_at_call 21; (with_reducible refine (AK.out _ T2.out).mono ?_); rintro e w3 ⟨rfl, k3⟩; have T3 := Lib.hid (T2.out.trans k3); have U3 := Lib.hid (U2.out.trans k3); clear k3; obtain ⟨b0, b1, b2, b3⟩ := bx4 (B0.out.since U3.out); have aa : ∀ cs t, _ := fun cs t => bx4 ((B0.out.since U3.out).since (since_alloc w3 (.cells cs t))); obtain ⟨a0, a1, a2, a3⟩ : (∀ cs t, (w3.alloc (.cells cs t)).cell? ⟨w.heap.size, 0, none⟩ = some _) ∧ (∀ cs t, (w3.alloc (.cells cs t)).cell? ⟨w.heap.size, 1, none⟩ = some _) ∧ (∀ cs t, (w3.alloc (.cells cs t)).cell? ⟨w.heap.size, 2, none⟩ = some _) ∧ (∀ cs t, (w3.alloc (.cells cs t)).cell? ⟨w.heap.size, 3, none⟩ = some _) := ⟨fun cs t => (aa cs t).1, fun cs t => (aa cs t).2.1, fun cs t => (aa cs t).2.2.1, fun cs t => (aa cs t).2.2.2⟩; clear aa) | (go_at_call 14; (with_reducible refine (HP.out _ _ (by simp only [plainC]; first | (rw [if_pos (by have := HK0.out; omega)]) | (rw [if_neg (by have := HK0.out; omega)])) (T3.out.trans (since_alloc _ _))).mono ?_); rintro e w4 ⟨rfl, k4, -⟩; have T4 := Lib.hid ((T3.out.trans (since_alloc _ _)).trans k4); have U4 := Lib.hid ((U3.out.trans (since_alloc _ _)).trans k4); clear k4; obtain ⟨b0, b1, b2, b3⟩ := bx4 (B0.out.since U4.out)) | (go_at_call 14; (with_reducible refine (HH.out _ T4.out).mono ?_); rintro e w5 ⟨rfl, k5, -⟩; have T5 := Lib.hid (T4.out.trans k5); have U5 := Lib.hid (U4.out.trans k5); clear k5; obtain ⟨b0, b1, b2, b3⟩ := bx4 (B0.out.since U5.out); have cx := CX.out _ T5.out; have ca := CA.out _ T5.out))
          go_ret
          exact ⟨by rw [E.out]; simp, T5.out⟩
      · have hfl : flg (vals z0.x z1) = false := by rw [flg, hlast]; simp [cz]
        by_cases c66 : k0k = 6
        · have E := Lib.hid (kin_imp hq (by have := HK0.out; omega) hfl)
          rw [hR] at E
          subst c66
          clear hC hA hX hY hq hq2 hy hlast hP hR hcd hin hjl hpos hz hfl hk3 hk5
          go_enter Try.func5, Try.ntmps5
          go_wp2_with (first | (go_at_call 10; (with_reducible refine (AL.out _).mono ?_); rintro e w1 ⟨rfl, k1⟩; have K1 := Lib.hid k1; have T1 := Lib.hid (S0.out.trans k1); obtain ⟨b0, b1, b2, b3⟩ := bx4 (B0.out.since k1); clear k1) | (go_at_call 11; (with_reducible refine (FI.out _ T1.out).mono ?_); rintro e w2 ⟨rfl, k2⟩; have T2 := Lib.hid (T1.out.trans k2); have U2 := Lib.hid (K1.out.trans k2); clear k2; obtain ⟨b0, b1, b2, b3⟩ := bx4 (B0.out.since U2.out)) | (go_at_call 21; (with_reducible refine (AK.out _ T2.out).mono ?_); rintro e w3 ⟨rfl, k3⟩; have T3 := Lib.hid (T2.out.trans k3); have U3 := Lib.hid (U2.out.trans k3); clear k3; obtain ⟨b0, b1, b2, b3⟩ := bx4 (B0.out.since U3.out); have aa : ∀ cs t, _ := fun cs t => bx4 ((B0.out.since U3.out).since (since_alloc w3 (.cells cs t))); obtain ⟨a0, a1, a2, a3⟩ : (∀ cs t, (w3.alloc (.cells cs t)).cell? ⟨w.heap.size, 0, none⟩ = some _) ∧ (∀ cs t, (w3.alloc (.cells cs t)).cell? ⟨w.heap.size, 1, none⟩ = some _) ∧ (∀ cs t, (w3.alloc (.cells cs t)).cell? ⟨w.heap.size, 2, none⟩ = some _) ∧ (∀ cs t, (w3.alloc (.cells cs t)).cell? ⟨w.heap.size, 3, none⟩ = some _) := ⟨fun cs t => (aa cs t).1, fun cs t => (aa cs t).2.1, fun cs t => (aa cs t).2.2.1, fun cs t => (aa cs t).2.2.2⟩; clear aa) | (go_at_call 14; (with_reducible refine (HP.out _ _ (by simp only [plainC]; first | (rw [if_pos (by have := HK0.out; omega)]) | (rw [if_neg (by have := HK0.out; omega)])) (T3.out.trans (since_alloc _ _))).mono ?_); rintro e w4 ⟨rfl, k4, -⟩; have T4 := Lib.hid ((T3.out.trans (since_alloc _ _)).trans k4); have U4 := Lib.hid ((U3.out.trans (since_alloc _ _)).trans k4); clear k4; obtain ⟨b0, b1, b2, b3⟩ := bx4 (B0.out.since U4.out)) | (go_at_call 14; (with_reducible refine (HH.out _ T4.out).mono ?_); rintro e w5 ⟨rfl, k5, -⟩; have T5 := Lib.hid (T4.out.trans k5); have U5 := Lib.hid (U4.out.trans k5); clear k5; obtain ⟨b0, b1, b2, b3⟩ := bx4 (B0.out.since U5.out); have cx := CX.out _ T5.out; have ca := CA.out _ T5.out))
          go_ret
          exact ⟨by rw [E.out]; simp, T5.out⟩
        · have E := Lib.hid (kin_no hq (by have := HK0.out; omega) hfl)
          rw [hR, hP] at E
          have hk45 : k0k = 4 ∨ k0k = 5 := by omega
          clear hk5 hfl hk3
          rcases hk45 with rfl | rfl
          all_goals
            clear hC hA hX hY hq hq2 hy hlast hP hR hcd hin hjl hpos hz
            go_enter Try.func5, Try.ntmps5
            go_wp2_with (first | (go_at_call 10; (with_reducible refine (AL.out _).mono ?_); rintro e w1 ⟨rfl, k1⟩; have K1 := Lib.hid k1; have T1 := Lib.hid (S0.out.trans k1); obtain ⟨b0, b1, b2, b3⟩ := bx4 (B0.out.since k1); clear k1) | (go_at_call 11; (with_reducible refine (FI.out _ T1.out).mono ?_); rintro e w2 ⟨rfl, k2⟩; have T2 := Lib.hid (T1.out.trans k2); have U2 := Lib.hid (K1.out.trans k2); clear k2; obtain ⟨b0, b1, b2, b3⟩ := bx4 (B0.out.since U2.out)) | (go_at_call 21; (with_reducible refine (AK.out _ T2.out).mono ?_); rintro e w3 ⟨rfl, k3⟩; have T3 := Lib.hid (T2.out.trans k3); have U3 := Lib.hid (U2.out.trans k3); clear k3; obtain ⟨b0, b1, b2, b3⟩ := bx4 (B0.out.since U3.out); have aa : ∀ cs t, _ := fun cs t => bx4 ((B0.out.since U3.out).since (since_alloc w3 (.cells cs t))); obtain ⟨a0, a1, a2, a3⟩ : (∀ cs t, (w3.alloc (.cells cs t)).cell? ⟨w.heap.size, 0, none⟩ = some _) ∧ (∀ cs t, (w3.alloc (.cells cs t)).cell? ⟨w.heap.size, 1, none⟩ = some _) ∧ (∀ cs t, (w3.alloc (.cells cs t)).cell? ⟨w.heap.size, 2, none⟩ = some _) ∧ (∀ cs t, (w3.alloc (.cells cs t)).cell? ⟨w.heap.size, 3, none⟩ = some _) := ⟨fun cs t => (aa cs t).1, fun cs t => (aa cs t).2.1, fun cs t => (aa cs t).2.2.1, fun cs t => (aa cs t).2.2.2⟩; clear aa) | (go_at_call 14; (with_reducible refine (HP.out _ _ (by simp only [plainC]; first | (rw [if_pos (by have := HK0.out; omega)]) | (rw [if_neg (by have := HK0.out; omega)])) (T3.out.trans (since_alloc _ _))).mono ?_); rintro e w4 ⟨rfl, k4, -⟩; have T4 := Lib.hid ((T3.out.trans (since_alloc _ _)).trans k4); have U4 := Lib.hid ((U3.out.trans (since_alloc _ _)).trans k4); clear k4; obtain ⟨b0, b1, b2, b3⟩ := bx4 (B0.out.since U4.out)) | (go_at_call 14; (with_reducible refine (HH.out _ T4.out).mono ?_); rintro e w5 ⟨rfl, k5, -⟩; have T5 := Lib.hid (T4.out.trans k5); have U5 := Lib.hid (U4.out.trans k5); clear k5; obtain ⟨b0, b1, b2, b3⟩ := bx4 (B0.out.since U5.out); have cx := CX.out _ T5.out; have ca := CA.out _ T5.out))
            go_ret
            exact ⟨by rw [E.out]; simp, T5.out⟩

set_option maxRecDepth 100000 in
theorem lifted (os : Os) (started : os.Started) (H : Type) (enc : TypeId × Value → H) :
    ReturnsInHanded {} Try.checked os 5 .any (Rows.senseKinSpec.pre6 enc Try.prog Try.f5 Rows.senseKinRow.domain false) (Rows.senseKinSpec.post enc Try.prog Try.f5 false true false false) := by
  refine returnsInHanded_of_change (C := Try.checked) own started (by kernel_rfl) Try.func5
    (ChangeSpec.witness6 (enc := enc) (C := Try.checked) false ⟨#[], #[.agg #[.int .i64 0, .slice none 0 0, .slice none 0 0, .int .i64 0], .slice none 0 0], []⟩ 8 (by kernel_rfl) (by kernel_rfl) (by kernel_rfl) (by kernel_rfl)) ?_
  intro W base args ds gs before hval0 hW hcnd _
  have hval : ∀ (j : Nat) t v, Try.f5.params[j]? = some t → args[j]? = some v → Value.okWide Try.prog W .any base t v := hval0
  have hW' := hW
  obtain ⟨p, q, hA0, hV, rfl, hfz, hnd⟩ := hW
  have hA : DataW.TrodAll enc Try.prog W 0 (fun _ => true) true Try.f5.params.toList args.toList ds p := hA0
  rw [Try.params5] at hA hval
  obtain ⟨v0, vs0, d0, ds0, p0, q0, hargs, rfl, rfl, h0, r0⟩ := trodAll_cons hA
  obtain ⟨v1, vs1, d1, ds1, p1, q1, rfl, rfl, rfl, h1, r1⟩ := trodAll_cons r0
  obtain ⟨rfl, rfl, rfl⟩ := trodAll_nil r1
  obtain rfl : args = #[v0, v1] := by cases args; simp_all
  obtain ⟨rfl, rfl⟩ := trodVars_none hV
  obtain ⟨k0k, X0, n0, xc0, Y0, m0, yc0, e0, rfl, z0, w0⟩ := Go.Proofs.Ytfcinefmnigacaa.Sn.con_in ⟨Try.underlying25, ⟨rfl, rfl, rfl, rfl⟩, ⟨by kernel_rfl, by kernel_rfl, by kernel_rfl, by kernel_rfl⟩, Try.underlying3, Try.underlying22, Try.underlying23, Try.underlying2, Try.underlying3, by kernel_rfl, Try.underlying2, by kernel_rfl⟩ (by kernel_rfl) (hval 0 25 v0 rfl rfl) h0
  have k0 := h0
  have lt0 : ∀ x ∈ p0, x.block < W.heap.size := by obtain ⟨m, hm⟩ := k0; exact DataW.trod_lt m _ _ _ hm
  obtain ⟨a1, len1, cap1, rfl⟩ := okWide_slice Try.underlying23 (hval 1 23 v1 rfl rfl)
  have k1 := h1
  have lt1 : ∀ x ∈ p1, x.block < W.heap.size := by obtain ⟨m, hm⟩ := k1; exact DataW.trod_lt m _ _ _ hm
  obtain ⟨z1, w1⟩ : ∃ zs, Go.Proofs.Ytfcinefmnigacaa.Sn.IntsIn W a1 len1 cap1 zs := by
    obtain ⟨fuel, hf⟩ := h1
    exact Go.Proofs.Ytfcinefmnigacaa.Sn.ints_in Try.underlying23 Try.underlying2 (by kernel_rfl) hf
  clear hA0 hval0
  refine (walk k0k X0 n0 xc0 Y0 m0 yc0 e0 z0 a1 len1 cap1 z1 W w0 w1).mono fun e W' ⟨he, bel⟩ => ?_
  subst he
  exact ⟨_, rfl, _, _, _, [], _, [], hW', trodAll_mk1 (shut_bool Try.underlying4 _), (trodAll_cons_mk (Below.trod laidOut (by kernel_rfl) (of_decide_eq_true (by kernel_rfl)) k0 bel lt0) (trodAll_cons_mk (Below.trod laidOut (by kernel_rfl) (of_decide_eq_true (by kernel_rfl)) k1 bel lt1) trodAll_mk0)), rfl, bel.frame _, fun h => by cases h⟩

theorem over : Rows.senseKinRow.holds Try.pinned (OpenSpec.ofChange Rows.senseKinSpec) :=
  OpenClaim.holds_of_wide 5 Try.f5 rfl rfl rfl rfl rfl rfl rfl ⟨rfl, rfl, rfl, rfl, rfl⟩ rfl rfl rfl rfl rfl (by kernel_rfl) Try.func5 (by kernel_rfl)
    (of_decide_eq_true (by kernel_rfl)) (by unfold Func.isWrapper; first | (rw [if_pos (by decide +kernel)]; kernel_rfl) | (rw [if_neg (by decide +kernel)]; exact ⟨rfl, rfl⟩))
    (fun os started H enc _ => lifted os started H enc)

/-- THE STATEMENT -/
theorem proved : Rows.SenseKinSaid := over
#print axioms proved
end Go.Proofs.Ytfcinefmnigacaa.senseKin
