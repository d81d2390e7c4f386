/-
  For all constraints, places and numbers: the law SenseMoved returns true (unlike values, and tasks, stay so when all are moved by one number). No condition.
-/
import Derived.Test.YtfcinefmnigacaaRows
import Derived.WalkKit
import Derived.ProofKit
import Derived.OpenShut
import Derived.ShutString
import Derived.ChangeOld
import Derived.Below
import Derived.Test.YtfcinefmnigacaaUz
import Derived.Test.YtfcinefmnigacaaKh
namespace Go.Proofs.Ytfcinefmnigacaa.senseMoved
open Go.ChangeShapes Go.WideShapes Go.ChangeAt Go.RowKit
open Go.ChangeMaps (open_string shut_string)
open Go.Proofs.Ytfcinefmnigacaa.Dig Go.Proofs.Ytfcinefmnigacaa.Zs Go.Proofs.Ytfcinefmnigacaa.Tr Go.Proofs.Ytfcinefmnigacaa.Sn
open Go.Proofs.Ytfcinefmnigacaa.Ti (Sl QR stR)
set_option linter.unusedVariables false

theorem own : ownKnob Try.prog.godebug = none := by kernel_rfl
theorem laidOut : laidOutB Try.prog = true := by kernel_rfl

/-- WHAT THE WALK IS TOLD OF A SLICE OF INTEGERS THAT CAME IN: it is nil; or it leads to a row of 'cap' cells, the numbers 'zs' (the first 'len' are its elements, the rest its spare room), each fitting its kind. -/
def IsRow (k : IntKind) (w : World) (a : Option Addr) (len cap : Nat) (zs : List Int) : Prop :=
  (a = none ∧ len = 0 ∧ cap = 0 ∧ zs = []) ∨
  ∃ x, a = some x ∧ len ≤ cap ∧ cap ≤ maxLen ∧ zs.length = cap ∧ (∀ i, i < zs.length → w.cell? (x.add i) = some (.int k (zs.getD i 0))) ∧ ∀ n ∈ zs, (Lit.int k n).wf = true

set_option maxRecDepth 100000 in
set_option maxHeartbeats 3000000 in
theorem walk (k0k : Int) (X0 : Option Addr) (n0 xc0 : Nat) (Y0 : Option Addr) (m0 yc0 : Nat) (e0 : Int) (z0 : Go.Proofs.Ytfcinefmnigacaa.Sn.Cn) (a1 : Option Addr) (len1 cap1 : Nat) (z1 : List Int) (a2 : Int) (w : World) (w0 : Go.Proofs.Ytfcinefmnigacaa.Sn.ConIn w k0k X0 n0 xc0 Y0 m0 yc0 e0 z0) (w1 : Go.Proofs.Ytfcinefmnigacaa.Sn.IntsIn w a1 len1 cap1 z1) (w2 : (Lit.int .i64 a2).wf = true) :
    Calls Try.prog 7 #[.agg #[.int .i64 k0k, .slice X0 n0 xc0, .slice Y0 m0 yc0, .int .i64 e0], .slice a1 len1 cap1, .int .i64 a2] w fun e w' => e = .returned (.bool true) ∧ Since w w' := by
  obtain ⟨hC, hBC, hcx, hca⟩ := w0
  obtain ⟨hl1, hA, hBA, hlA⟩ := w1
  have AL := Lib.hid alive_any
  obtain ⟨hk0, he0, hX, hY, hn, hm⟩ := con_open hC
  have HK0 := Lib.hid hk0
  clear hk0 he0 hn hm
  have FI := Lib.hid (fun W (k : Since w W) => fits_any _ _ z0 z1 W (hC.since k) (hA.since stI k) (mlen hcx) (mlen hca) (mlen hlA))
  obtain ⟨f, hf⟩ : ∃ f, fitsL z0 z1 = f := ⟨_, rfl⟩
  rw [hf] at FI
  have S0 := Lib.hid (since_alloc w (.cells #[.int .i64 k0k, .slice X0 n0 xc0, .slice Y0 m0 yc0, .int .i64 e0] 25))
  have B0 := Lib.hid (Bx.fresh w #[.int .i64 k0k, .slice X0 n0 xc0, .slice Y0 m0 yc0, .int .i64 e0] 25)
  have HA := Lib.hid hA
  have HC := Lib.hid hC
  have HL1 := Lib.hid hl1
  cases f with
  | false =>
    clear hf hC hA hX hY hl1
    go_enter Try.func7, Try.ntmps7
    go_wp2_with (first | (go_at_call 10; (with_reducible refine (AL.out _).mono ?_); rintro e w1 ⟨rfl, k1⟩; have K1 := Lib.hid k1; have T1 := Lib.hid (S0.out.trans k1); obtain ⟨b0, b1, b2, b3⟩ := bx4 (B0.out.since k1); clear k1) | (go_at_call 11; (with_reducible refine (FI.out _ T1.out).mono ?_); rintro e w2 ⟨rfl, k2⟩; have T2 := Lib.hid (T1.out.trans k2); have U2 := Lib.hid (K1.out.trans k2); clear k2; obtain ⟨b0, b1, b2, b3⟩ := bx4 (B0.out.since U2.out)))
    go_ret
    exact ⟨rfl, T2.out⟩
  | true =>
    obtain ⟨hf1, hf2, hf3⟩ := fitsL_parts hf
    clear hf
    by_cases hk : k0k = 18 ∨ k0k = 19
    case neg =>
      have hk1 : k0k ≠ 18 := fun h => hk (Or.inl h)
      have hk2 : k0k ≠ 19 := fun h => hk (Or.inr h)
      clear hk hC hA hX hY hl1
      go_enter Try.func7, Try.ntmps7
      go_wp2_with (first | (go_at_call 10; (with_reducible refine (AL.out _).mono ?_); rintro e w1 ⟨rfl, k1⟩; have K1 := Lib.hid k1; have T1 := Lib.hid (S0.out.trans k1); obtain ⟨b0, b1, b2, b3⟩ := bx4 (B0.out.since k1); clear k1) | (go_at_call 11; (with_reducible refine (FI.out _ T1.out).mono ?_); rintro e w2 ⟨rfl, k2⟩; have T2 := Lib.hid (T1.out.trans k2); have U2 := Lib.hid (K1.out.trans k2); clear k2; obtain ⟨b0, b1, b2, b3⟩ := bx4 (B0.out.since U2.out)))
      go_ret
      exact ⟨rfl, T2.out⟩
    obtain ⟨q, hq⟩ : ∃ q, asked z0 z1 = q := ⟨_, rfl⟩
    have AK := Lib.hid (fun W (k : Since w W) => rasked_any _ _ z0 z1 W (hC.since k) (hA.since stI k) (by omega) (by omega) (by omega))
    rw [hq] at AK
    cases q with
    | false =>
      rcases hk with rfl | rfl
      all_goals
        clear hC hA hX hY hq hl1
        go_enter Try.func7, Try.ntmps7
        go_wp2_with (first | (go_at_call 10; (with_reducible refine (AL.out _).mono ?_); rintro e w1 ⟨rfl, k1⟩; have K1 := Lib.hid k1; have T1 := Lib.hid (S0.out.trans k1); obtain ⟨b0, b1, b2, b3⟩ := bx4 (B0.out.since k1); clear k1) | (go_at_call 11; (with_reducible refine (FI.out _ T1.out).mono ?_); rintro e w2 ⟨rfl, k2⟩; have T2 := Lib.hid (T1.out.trans k2); have U2 := Lib.hid (K1.out.trans k2); clear k2; obtain ⟨b0, b1, b2, b3⟩ := bx4 (B0.out.since U2.out)) | (go_at_call 21; (with_reducible refine (AK.out _ T2.out).mono ?_); rintro e w3 ⟨rfl, k3⟩; have T3 := Lib.hid (T2.out.trans k3); have U3 := Lib.hid (U2.out.trans k3); clear k3; obtain ⟨b0, b1, b2, b3⟩ := bx4 (B0.out.since U3.out)))
        go_ret
        exact ⟨rfl, T3.out⟩
    | true =>
      by_cases ca : a2 < -1048576
      case pos =>
        rcases hk with rfl | rfl
        all_goals
          clear hC hA hX hY hq hl1
          go_enter Try.func7, Try.ntmps7
          go_wp2_with (first | (go_at_call 10; (with_reducible refine (AL.out _).mono ?_); rintro e w1 ⟨rfl, k1⟩; have K1 := Lib.hid k1; have T1 := Lib.hid (S0.out.trans k1); obtain ⟨b0, b1, b2, b3⟩ := bx4 (B0.out.since k1); clear k1) | (go_at_call 11; (with_reducible refine (FI.out _ T1.out).mono ?_); rintro e w2 ⟨rfl, k2⟩; have T2 := Lib.hid (T1.out.trans k2); have U2 := Lib.hid (K1.out.trans k2); clear k2; obtain ⟨b0, b1, b2, b3⟩ := bx4 (B0.out.since U2.out)) | (go_at_call 21; (with_reducible refine (AK.out _ T2.out).mono ?_); rintro e w3 ⟨rfl, k3⟩; have T3 := Lib.hid (T2.out.trans k3); have U3 := Lib.hid (U2.out.trans k3); clear k3; obtain ⟨b0, b1, b2, b3⟩ := bx4 (B0.out.since U3.out)))
          go_ret
          exact ⟨rfl, T3.out⟩
      by_cases cb : a2 > 1048576
      case pos =>
        rcases hk with rfl | rfl
        all_goals
          clear hC hA hX hY hq hl1
          go_enter Try.func7, Try.ntmps7
          go_wp2_with (first | (go_at_call 10; (with_reducible refine (AL.out _).mono ?_); rintro e w1 ⟨rfl, k1⟩; have K1 := Lib.hid k1; have T1 := Lib.hid (S0.out.trans k1); obtain ⟨b0, b1, b2, b3⟩ := bx4 (B0.out.since k1); clear k1) | (go_at_call 11; (with_reducible refine (FI.out _ T1.out).mono ?_); rintro e w2 ⟨rfl, k2⟩; have T2 := Lib.hid (T1.out.trans k2); have U2 := Lib.hid (K1.out.trans k2); clear k2; obtain ⟨b0, b1, b2, b3⟩ := bx4 (B0.out.since U2.out)) | (go_at_call 21; (with_reducible refine (AK.out _ T2.out).mono ?_); rintro e w3 ⟨rfl, k3⟩; have T3 := Lib.hid (T2.out.trans k3); have U3 := Lib.hid (U2.out.trans k3); clear k3; obtain ⟨b0, b1, b2, b3⟩ := bx4 (B0.out.since U3.out)))
          go_ret
          exact ⟨rfl, T3.out⟩
      obtain ⟨R, hR⟩ : ∃ R, holds z0 z1 = R := ⟨_, rfl⟩
      have HH := Lib.hid (fun W k => holds_at hC hA (by omega) (by omega) hR W k)
      have HCX := Lib.hid (show z0.x.length ≤ 1100000 by omega)
      have HCA := Lib.hid (show z0.a.length ≤ 1100000 by omega)
      have MV := Lib.hid (fun (h2 : asked z0 (movedL a2 z1) = true) => (moved_same (by have := HK0.out; omega) hq h2).symm.trans hR)
      obtain ⟨b, hb⟩ : ∃ b, asked z0 (movedL a2 z1) = b := ⟨_, rfl⟩
      rw [hb] at MV
      have HBK := Lib.hid hb
      have hll : len1 ≤ 200 := by omega
      clear hC hA hX hY hq hR hb hf3 hlA hcx hca hBA hBC
      rcases hk with rfl | rfl
      · skip
        by_cases c0 : len1 = 0
        case pos =>
          subst c0
          obtain rfl : z1 = [] := List.eq_nil_of_length_eq_zero hl1
          clear hl1
          go_enter Try.func7, Try.ntmps7
          go_wp2_with (first | (go_at_call 10; (with_reducible refine (AL.out _).mono ?_); rintro e w1 ⟨rfl, k1⟩; have K1 := Lib.hid k1; have T1 := Lib.hid (S0.out.trans k1); obtain ⟨b0, b1, b2, b3⟩ := bx4 (B0.out.since k1); clear k1) | (go_at_call 11; (with_reducible refine (FI.out _ T1.out).mono ?_); rintro e w2 ⟨rfl, k2⟩; have T2 := Lib.hid (T1.out.trans k2); have U2 := Lib.hid (K1.out.trans k2); clear k2; obtain ⟨b0, b1, b2, b3⟩ := bx4 (B0.out.since U2.out)) | (go_at_call 21; (with_reducible refine (AK.out _ T2.out).mono ?_); rintro e w3 ⟨rfl, k3⟩; have T3 := Lib.hid (T2.out.trans k3); have U3 := Lib.hid (U2.out.trans k3); clear k3; obtain ⟨b0, b1, b2, b3⟩ := bx4 (B0.out.since U3.out)) | (at_builtin; refine wpList_copyE (by rfl) _ _ rfl rfl rfl ?_; intro BB d w5 k5; have T5 := Lib.hid (T3.out.trans k5); have U5 := Lib.hid (U3.out.trans k5); have SB := Lib.hid (show Sl 1 QI w5 (.slice BB 0 d) (movedL a2 []) from sl_none BB d); clear k5))
          go_loopw [43] (fun i wr => i = .int .i64 0 ∧ wr = w5) (fun i _ => 0)
          case atStart => exact ⟨rfl, rfl⟩
          case round =>
            obtain ⟨rfl, rfl⟩ := hrel
            have HLB := Lib.hid (show (movedL a2 []).length ≤ 1100000 by rw [movedL, List.length_map]; have := HL1.out; omega)
            have AK2 := Lib.hid (rasked_any _ _ z0 _ wr (HC.out.since T5.out) SB.out HCX.out HCA.out HLB.out)
            rw [HBK.out] at AK2
            obtain ⟨b0, b1, b2, b3⟩ := bx4 (B0.out.since U5.out)
            cases b with
            | false =>
              go_wp2_with (first | (go_at_call 21; (with_reducible refine (AK2.out).mono ?_); rintro e w9 ⟨rfl, k9⟩; have T9 := Lib.hid (T5.out.trans k9); have U9 := Lib.hid (U5.out.trans k9); have V9 := Lib.hid k9; clear k9; obtain ⟨b0, b1, b2, b3⟩ := bx4 (B0.out.since U9.out)))
              go_ret
              exact ⟨rfl, T9.out⟩
            | true =>
              have HB2 := Lib.hid (fun W k => holds_at (HC.out.since T5.out) SB.out HCA.out HLB.out (MV.out rfl) W k)
              clear MV AK
              go_wp2_with (first | (go_at_call 21; (with_reducible refine (AK2.out).mono ?_); rintro e w9 ⟨rfl, k9⟩; have T9 := Lib.hid (T5.out.trans k9); have U9 := Lib.hid (U5.out.trans k9); have V9 := Lib.hid k9; clear k9; obtain ⟨b0, b1, b2, b3⟩ := bx4 (B0.out.since U9.out)))
              have hr0 : Since w9 w9.drew := Since.drew (Since.refl w9)
              refine wp_region_noPanic ?_
              refine Reg.wp_region_G (S := fun _ => True) (fun j => [].contains j) (by kernel_rfl) trivial ?_
              refine' Reg.wpG_take (i := 0) (oi := { dst := some 70, op := Op.load 25 (Operand.tmp 3), type := 25, pos := "law.go:141", after := #[], guard := none }) (v := _) [2, 5, 6, 7] [] rfl rfl (by kernel_rfl) (by kernel_rfl) (by kernel_rfl) (by kernel_rfl) (by kernel_rfl) (by kernel_rfl) (by kernel_rfl) (fun _ _ _ h => h) (Or.inl ⟨by rfl, Or.inl ?hy2⟩) ?rest2
              case hy2 => (intro w' kk ss; obtain ⟨x0, x1, x2', x3⟩ := bx4 (B0.out.since (U9.out.trans (hr0.trans kk))); go_simp; first | done | with_reducible rfl)
              try simp only [Act.put, List.setIfInBounds_toArray, List.set_cons_zero, List.set_cons_succ]
              refine' Reg.wpG_take (i := 1) (oi := { dst := some 71, op := Op.move (Operand.tmp 1), type := 23, pos := "law.go:141", after := #[], guard := none }) (v := _) [2, 5, 6, 7] [] rfl rfl (by kernel_rfl) (by kernel_rfl) (by kernel_rfl) (by kernel_rfl) (by kernel_rfl) (by kernel_rfl) (by kernel_rfl) (fun _ _ _ h => h) (Or.inl ⟨by rfl, Or.inl ?hy3⟩) ?rest3
              case hy3 => (intro w' kk ss; obtain ⟨x0, x1, x2', x3⟩ := bx4 (B0.out.since (U9.out.trans (hr0.trans kk))); go_simp; first | done | with_reducible rfl)
              try simp only [Act.put, List.setIfInBounds_toArray, List.set_cons_zero, List.set_cons_succ]
              refine Reg.wpG_take (i := 2) (oi := { dst := some 72, op := Op.call { callee := Callee.value (Operand.func 14), args := #[Operand.tmp 70, Operand.tmp 71], argTypes := #[25, 23] }, type := 4, pos := "law.go:141", after := #[{ on := 0, ground := Ground.data }, { on := 1, ground := Ground.data }], guard := none }) (v := .bool R) [5, 6, 7] [] rfl rfl (by kernel_rfl) (by kernel_rfl) (by kernel_rfl) (by kernel_rfl) (by kernel_rfl) (by kernel_rfl) (by kernel_rfl) (fun _ _ _ h => h) (Or.inl ⟨by rfl, Or.inr ⟨14, #[.agg #[.int .i64 18, .slice X0 n0 xc0, .slice Y0 m0 yc0, .int .i64 e0], .slice a1 0 cap1], fun w' kk ss => ⟨?_, ?_⟩⟩⟩) ?_
              · (try dsimp only at ss); go_simp
              · exact HH.out w' (T9.out.trans (hr0.trans kk))
              try simp only [Act.put, List.setIfInBounds_toArray, List.set_cons_zero, List.set_cons_succ]
              refine' Reg.wpG_take (i := 3) (oi := { dst := some 73, op := Op.load 25 (Operand.tmp 3), type := 25, pos := "law.go:141", after := #[], guard := none }) (v := _) [5, 6, 7] [] rfl rfl (by kernel_rfl) (by kernel_rfl) (by kernel_rfl) (by kernel_rfl) (by kernel_rfl) (by kernel_rfl) (by kernel_rfl) (fun _ _ _ h => h) (Or.inl ⟨by rfl, Or.inl ?hy4⟩) ?rest4
              case hy4 => (intro w' kk ss; obtain ⟨x0, x1, x2', x3⟩ := bx4 (B0.out.since (U9.out.trans (hr0.trans kk))); go_simp; first | done | with_reducible rfl)
              try simp only [Act.put, List.setIfInBounds_toArray, List.set_cons_zero, List.set_cons_succ]
              refine' Reg.wpG_take (i := 4) (oi := { dst := some 74, op := Op.move (Operand.tmp 7), type := 23, pos := "law.go:141", after := #[], guard := none }) (v := _) [5, 6, 7] [] rfl rfl (by kernel_rfl) (by kernel_rfl) (by kernel_rfl) (by kernel_rfl) (by kernel_rfl) (by kernel_rfl) (by kernel_rfl) (fun _ _ _ h => h) (Or.inl ⟨by rfl, Or.inl ?hy5⟩) ?rest5
              case hy5 => (intro w' kk ss; obtain ⟨x0, x1, x2', x3⟩ := bx4 (B0.out.since (U9.out.trans (hr0.trans kk))); go_simp; first | done | with_reducible rfl)
              try simp only [Act.put, List.setIfInBounds_toArray, List.set_cons_zero, List.set_cons_succ]
              refine Reg.wpG_take (i := 5) (oi := { dst := some 75, op := Op.call { callee := Callee.value (Operand.func 14), args := #[Operand.tmp 73, Operand.tmp 74], argTypes := #[25, 23] }, type := 4, pos := "law.go:141", after := #[{ on := 3, ground := Ground.data }, { on := 4, ground := Ground.data }, { on := 2, ground := Ground.chain }], guard := none }) (v := .bool R) [6, 7] [] rfl rfl (by kernel_rfl) (by kernel_rfl) (by kernel_rfl) (by kernel_rfl) (by kernel_rfl) (by kernel_rfl) (by kernel_rfl) (fun _ _ _ h => h) (Or.inl ⟨by rfl, Or.inr ⟨14, #[.agg #[.int .i64 18, .slice X0 n0 xc0, .slice Y0 m0 yc0, .int .i64 e0], .slice BB 0 d], fun w' kk ss => ⟨?_, ?_⟩⟩⟩) ?_
              · (try dsimp only at ss); go_simp
              · exact HB2.out w' (V9.out.trans (hr0.trans kk))
              try simp only [Act.put, List.setIfInBounds_toArray, List.set_cons_zero, List.set_cons_succ]
              refine' Reg.wpG_take (i := 6) (oi := { dst := some 76, op := Op.binOp BinOp.eql 4 (Operand.tmp 72) (Operand.tmp 75) 4, type := 4, pos := "law.go:141", after := #[{ on := 2, ground := Ground.data }, { on := 5, ground := Ground.data }], guard := none }) (v := _) [7] [] rfl rfl (by kernel_rfl) (by kernel_rfl) (by kernel_rfl) (by kernel_rfl) (by kernel_rfl) (by kernel_rfl) (by kernel_rfl) (fun _ _ _ h => h) (Or.inl ⟨by rfl, Or.inl ?hy6⟩) ?rest6
              case hy6 => (intro w' kk ss; obtain ⟨x0, x1, x2', x3⟩ := bx4 (B0.out.since (U9.out.trans (hr0.trans kk))); go_simp; first | done | with_reducible rfl)
              try simp only [Act.put, List.setIfInBounds_toArray, List.set_cons_zero, List.set_cons_succ]
              refine' Reg.wpG_take (i := 7) (oi := { dst := some 6, op := Op.assign (Operand.tmp 76), type := 4, pos := "law.go:141", after := #[{ on := 6, ground := Ground.data }, { on := 5, ground := Ground.chain }, { on := 0, ground := Ground.phase }, { on := 1, ground := Ground.phase }, { on := 2, ground := Ground.phase }, { on := 3, ground := Ground.phase }, { on := 4, ground := Ground.phase }, { on := 5, ground := Ground.phase }, { on := 6, ground := Ground.phase }], guard := none }) (v := _) [] [] rfl rfl (by kernel_rfl) (by kernel_rfl) (by kernel_rfl) (by kernel_rfl) (by kernel_rfl) (by kernel_rfl) (by kernel_rfl) (fun _ _ _ h => h) (Or.inl ⟨by rfl, Or.inl ?hy7⟩) ?rest7
              case hy7 => (intro w' kk ss; obtain ⟨x0, x1, x2', x3⟩ := bx4 (B0.out.since (U9.out.trans (hr0.trans kk))); go_simp; first | done | with_reducible rfl)
              try simp only [Act.put, List.setIfInBounds_toArray, List.set_cons_zero, List.set_cons_succ]
              refine Reg.wpG_done (by kernel_rfl) (fun we ke se => ?_) _
              refine NoPanic.normal ?_
              have hr0 := hr0.trans ke
              clear ke
              go_wp2
              go_ret
              exact RetT.of (by simp) (T9.out.trans hr0)
        have hp1 : 0 < len1 := by omega
        clear c0 hl1
        go_enter Try.func7, Try.ntmps7
        go_wp2_with (first | (go_at_call 10; (with_reducible refine (AL.out _).mono ?_); rintro e w1 ⟨rfl, k1⟩; have K1 := Lib.hid k1; have T1 := Lib.hid (S0.out.trans k1); obtain ⟨b0, b1, b2, b3⟩ := bx4 (B0.out.since k1); clear k1) | (go_at_call 11; (with_reducible refine (FI.out _ T1.out).mono ?_); rintro e w2 ⟨rfl, k2⟩; have T2 := Lib.hid (T1.out.trans k2); have U2 := Lib.hid (K1.out.trans k2); clear k2; obtain ⟨b0, b1, b2, b3⟩ := bx4 (B0.out.since U2.out)) | (go_at_call 21; (with_reducible refine (AK.out _ T2.out).mono ?_); rintro e w3 ⟨rfl, k3⟩; have T3 := Lib.hid (T2.out.trans k3); have U3 := Lib.hid (U2.out.trans k3); clear k3; obtain ⟨b0, b1, b2, b3⟩ := bx4 (B0.out.since U3.out)) | (at_builtin; refine wpList_copyI (HA.out.since stI T3.out) hp1 (by omega) (by rfl) _ _ rfl rfl rfl ?_; intro g d cur w4 hb hg hd hcur k4; have HBX := Lib.hid hb; have HCUR := Lib.hid hcur; have HG := Lib.hid (show w.heap.size ≤ g by have := T3.out.size; omega); have HG3 := Lib.hid hg; have HD := Lib.hid hd; have K4 := Lib.hid k4; clear hb hg hcur k4))
        go_loopw [43] (fun i wr => ∃ (k : Nat) (cur : Array Value), i = .int .i64 (k : Int) ∧ k ≤ len1 ∧ Hid (Bx wr g cur 2) ∧ Hid (Beg cur (mvd a2 z1 k)) ∧ Hid (Since w3 wr)) (fun i _ => len1 - (intOf i).toNat)
        case atStart => exact ⟨0, cur, rfl, Nat.zero_le _, HBX, Lib.hid (by rw [mvd_zero]; exact HCUR.out), K4⟩
        case round =>
          obtain ⟨k, cu, rfl, hk, HX, HE, HW⟩ := hrel
          by_cases hkn : k < len1
          · skip
            have hkl : k < z1.length := by have := HL1.out; omega
            have hcell := HX.out.cell k
            rw [HE.out k _ (mvd_get a2 hkl)] at hcell
            have hfro := HX.out.no k
            have HY := Lib.hid (fun (h : within z1[k] = true) => mvd_yes a2 hkl h)
            have HN := Lib.hid (fun (h : within z1[k] = false) => mvd_no a2 hkl h)
            have HKL := Lib.hid (show k < (mvd a2 z1 k).length by rw [mvd_len]; exact hkl)
            generalize z1[k] = y at *
            clear hkl
            by_cases ym : within y = true
            · skip
              obtain ⟨y1, y2⟩ := (within_iff2 y).1 ym
              have HZ := Lib.hid (HY.out ym)
              clear HY HN ym
              go_wp2
              go_roundw
              case rel => exact ⟨k + 1, _, by go_num, by omega, Lib.hid (bxset HX.out k (.int .i64 (y + a2)) rfl), Lib.hid (HZ.out ▸ cur_set HE.out HKL.out (y + a2)), Lib.hid (HW.out.set (p := ⟨g, k, none⟩) HG3.out _)⟩
              case measure => simp [intOf]; omega
            · skip
              have ym2 : within y = false := by simpa using ym
              have HZ := Lib.hid (HN.out ym2)
              have hyn : y < -1048576 ∨ 1048576 < y := (by rw [within_iff2] at ym; omega)
              clear HY HN ym ym2
              rcases hyn with hyn | hyn
              all_goals
                go_wp2
                go_roundw
                case rel => exact ⟨k + 1, _, by go_num, by omega, HX, Lib.hid (HZ.out ▸ HE.out), HW⟩
                case measure => simp [intOf]; omega
          · skip
            obtain rfl : len1 = k := by omega
            have T5 := Lib.hid (T3.out.trans HW.out)
            have U5 := Lib.hid (U3.out.trans HW.out)
            have SB := Lib.hid (show Sl 1 QI wr (.slice (some ⟨g, 0, none⟩) len1 d) (movedL a2 z1) from sl_bx HX.out (by rw [movedL, List.length_map]; exact HL1.out) HD.out (by have := HE.out; rw [HL1.out.symm, mvd_end] at this; exact this))
            clear HX HE HW HBX HCUR K4
            skip
            have HLB := Lib.hid (show (movedL a2 z1).length ≤ 1100000 by rw [movedL, List.length_map]; have := HL1.out; omega)
            have AK2 := Lib.hid (rasked_any _ _ z0 _ wr (HC.out.since T5.out) SB.out HCX.out HCA.out HLB.out)
            rw [HBK.out] at AK2
            obtain ⟨b0, b1, b2, b3⟩ := bx4 (B0.out.since U5.out)
            cases b with
            | false =>
              go_wp2_with (first | (go_at_call 21; (with_reducible refine (AK2.out).mono ?_); rintro e w9 ⟨rfl, k9⟩; have T9 := Lib.hid (T5.out.trans k9); have U9 := Lib.hid (U5.out.trans k9); have V9 := Lib.hid k9; clear k9; obtain ⟨b0, b1, b2, b3⟩ := bx4 (B0.out.since U9.out)))
              go_ret
              exact ⟨rfl, T9.out⟩
            | true =>
              have HB2 := Lib.hid (fun W k => holds_at (HC.out.since T5.out) SB.out HCA.out HLB.out (MV.out rfl) W k)
              clear MV AK
              go_wp2_with (first | (go_at_call 21; (with_reducible refine (AK2.out).mono ?_); rintro e w9 ⟨rfl, k9⟩; have T9 := Lib.hid (T5.out.trans k9); have U9 := Lib.hid (U5.out.trans k9); have V9 := Lib.hid k9; clear k9; obtain ⟨b0, b1, b2, b3⟩ := bx4 (B0.out.since U9.out)))
              have hr0 : Since w9 w9.drew := Since.drew (Since.refl w9)
              refine wp_region_noPanic ?_
              refine Reg.wp_region_G (S := fun _ => True) (fun j => [].contains j) (by kernel_rfl) trivial ?_
              refine' Reg.wpG_take (i := 0) (oi := { dst := some 70, op := Op.load 25 (Operand.tmp 3), type := 25, pos := "law.go:141", after := #[], guard := none }) (v := _) [2, 5, 6, 7] [] rfl rfl (by kernel_rfl) (by kernel_rfl) (by kernel_rfl) (by kernel_rfl) (by kernel_rfl) (by kernel_rfl) (by kernel_rfl) (fun _ _ _ h => h) (Or.inl ⟨by rfl, Or.inl ?hy9⟩) ?rest9
              case hy9 => (intro w' kk ss; obtain ⟨x0, x1, x2', x3⟩ := bx4 (B0.out.since (U9.out.trans (hr0.trans kk))); go_simp; first | done | with_reducible rfl)
              try simp only [Act.put, List.setIfInBounds_toArray, List.set_cons_zero, List.set_cons_succ]
              refine' Reg.wpG_take (i := 1) (oi := { dst := some 71, op := Op.move (Operand.tmp 1), type := 23, pos := "law.go:141", after := #[], guard := none }) (v := _) [2, 5, 6, 7] [] rfl rfl (by kernel_rfl) (by kernel_rfl) (by kernel_rfl) (by kernel_rfl) (by kernel_rfl) (by kernel_rfl) (by kernel_rfl) (fun _ _ _ h => h) (Or.inl ⟨by rfl, Or.inl ?hy10⟩) ?rest10
              case hy10 => (intro w' kk ss; obtain ⟨x0, x1, x2', x3⟩ := bx4 (B0.out.since (U9.out.trans (hr0.trans kk))); go_simp; first | done | with_reducible rfl)
              try simp only [Act.put, List.setIfInBounds_toArray, List.set_cons_zero, List.set_cons_succ]
              refine Reg.wpG_take (i := 2) (oi := { dst := some 72, op := Op.call { callee := Callee.value (Operand.func 14), args := #[Operand.tmp 70, Operand.tmp 71], argTypes := #[25, 23] }, type := 4, pos := "law.go:141", after := #[{ on := 0, ground := Ground.data }, { on := 1, ground := Ground.data }], guard := none }) (v := .bool R) [5, 6, 7] [] rfl rfl (by kernel_rfl) (by kernel_rfl) (by kernel_rfl) (by kernel_rfl) (by kernel_rfl) (by kernel_rfl) (by kernel_rfl) (fun _ _ _ h => h) (Or.inl ⟨by rfl, Or.inr ⟨14, #[.agg #[.int .i64 18, .slice X0 n0 xc0, .slice Y0 m0 yc0, .int .i64 e0], .slice a1 len1 cap1], fun w' kk ss => ⟨?_, ?_⟩⟩⟩) ?_
              · (try dsimp only at ss); go_simp
              · exact HH.out w' (T9.out.trans (hr0.trans kk))
              try simp only [Act.put, List.setIfInBounds_toArray, List.set_cons_zero, List.set_cons_succ]
              refine' Reg.wpG_take (i := 3) (oi := { dst := some 73, op := Op.load 25 (Operand.tmp 3), type := 25, pos := "law.go:141", after := #[], guard := none }) (v := _) [5, 6, 7] [] rfl rfl (by kernel_rfl) (by kernel_rfl) (by kernel_rfl) (by kernel_rfl) (by kernel_rfl) (by kernel_rfl) (by kernel_rfl) (fun _ _ _ h => h) (Or.inl ⟨by rfl, Or.inl ?hy11⟩) ?rest11
              case hy11 => (intro w' kk ss; obtain ⟨x0, x1, x2', x3⟩ := bx4 (B0.out.since (U9.out.trans (hr0.trans kk))); go_simp; first | done | with_reducible rfl)
              try simp only [Act.put, List.setIfInBounds_toArray, List.set_cons_zero, List.set_cons_succ]
              refine' Reg.wpG_take (i := 4) (oi := { dst := some 74, op := Op.move (Operand.tmp 7), type := 23, pos := "law.go:141", after := #[], guard := none }) (v := _) [5, 6, 7] [] rfl rfl (by kernel_rfl) (by kernel_rfl) (by kernel_rfl) (by kernel_rfl) (by kernel_rfl) (by kernel_rfl) (by kernel_rfl) (fun _ _ _ h => h) (Or.inl ⟨by rfl, Or.inl ?hy12⟩) ?rest12
              case hy12 => (intro w' kk ss; obtain ⟨x0, x1, x2', x3⟩ := bx4 (B0.out.since (U9.out.trans (hr0.trans kk))); go_simp; first | done | with_reducible rfl)
              try simp only [Act.put, List.setIfInBounds_toArray, List.set_cons_zero, List.set_cons_succ]
              refine Reg.wpG_take (i := 5) (oi := { dst := some 75, op := Op.call { callee := Callee.value (Operand.func 14), args := #[Operand.tmp 73, Operand.tmp 74], argTypes := #[25, 23] }, type := 4, pos := "law.go:141", after := #[{ on := 3, ground := Ground.data }, { on := 4, ground := Ground.data }, { on := 2, ground := Ground.chain }], guard := none }) (v := .bool R) [6, 7] [] rfl rfl (by kernel_rfl) (by kernel_rfl) (by kernel_rfl) (by kernel_rfl) (by kernel_rfl) (by kernel_rfl) (by kernel_rfl) (fun _ _ _ h => h) (Or.inl ⟨by rfl, Or.inr ⟨14, #[.agg #[.int .i64 18, .slice X0 n0 xc0, .slice Y0 m0 yc0, .int .i64 e0], .slice (some ⟨g, 0, none⟩) len1 d], fun w' kk ss => ⟨?_, ?_⟩⟩⟩) ?_
              · (try dsimp only at ss); go_simp
              · exact HB2.out w' (V9.out.trans (hr0.trans kk))
              try simp only [Act.put, List.setIfInBounds_toArray, List.set_cons_zero, List.set_cons_succ]
              refine' Reg.wpG_take (i := 6) (oi := { dst := some 76, op := Op.binOp BinOp.eql 4 (Operand.tmp 72) (Operand.tmp 75) 4, type := 4, pos := "law.go:141", after := #[{ on := 2, ground := Ground.data }, { on := 5, ground := Ground.data }], guard := none }) (v := _) [7] [] rfl rfl (by kernel_rfl) (by kernel_rfl) (by kernel_rfl) (by kernel_rfl) (by kernel_rfl) (by kernel_rfl) (by kernel_rfl) (fun _ _ _ h => h) (Or.inl ⟨by rfl, Or.inl ?hy13⟩) ?rest13
              case hy13 => (intro w' kk ss; obtain ⟨x0, x1, x2', x3⟩ := bx4 (B0.out.since (U9.out.trans (hr0.trans kk))); go_simp; first | done | with_reducible rfl)
              try simp only [Act.put, List.setIfInBounds_toArray, List.set_cons_zero, List.set_cons_succ]
              refine' Reg.wpG_take (i := 7) (oi := { dst := some 6, op := Op.assign (Operand.tmp 76), type := 4, pos := "law.go:141", after := #[{ on := 6, ground := Ground.data }, { on := 5, ground := Ground.chain }, { on := 0, ground := Ground.phase }, { on := 1, ground := Ground.phase }, { on := 2, ground := Ground.phase }, { on := 3, ground := Ground.phase }, { on := 4, ground := Ground.phase }, { on := 5, ground := Ground.phase }, { on := 6, ground := Ground.phase }], guard := none }) (v := _) [] [] rfl rfl (by kernel_rfl) (by kernel_rfl) (by kernel_rfl) (by kernel_rfl) (by kernel_rfl) (by kernel_rfl) (by kernel_rfl) (fun _ _ _ h => h) (Or.inl ⟨by rfl, Or.inl ?hy14⟩) ?rest14
              case hy14 => (intro w' kk ss; obtain ⟨x0, x1, x2', x3⟩ := bx4 (B0.out.since (U9.out.trans (hr0.trans kk))); go_simp; first | done | with_reducible rfl)
              try simp only [Act.put, List.setIfInBounds_toArray, List.set_cons_zero, List.set_cons_succ]
              refine Reg.wpG_done (by kernel_rfl) (fun we ke se => ?_) _
              refine NoPanic.normal ?_
              have hr0 := hr0.trans ke
              clear ke
              go_wp2
              go_ret
              exact RetT.of (by simp) (T9.out.trans hr0)
      · skip
        by_cases c0 : len1 = 0
        case pos =>
          subst c0
          obtain rfl : z1 = [] := List.eq_nil_of_length_eq_zero hl1
          clear hl1
          go_enter Try.func7, Try.ntmps7
          go_wp2_with (first | (go_at_call 10; (with_reducible refine (AL.out _).mono ?_); rintro e w1 ⟨rfl, k1⟩; have K1 := Lib.hid k1; have T1 := Lib.hid (S0.out.trans k1); obtain ⟨b0, b1, b2, b3⟩ := bx4 (B0.out.since k1); clear k1) | (go_at_call 11; (with_reducible refine (FI.out _ T1.out).mono ?_); rintro e w2 ⟨rfl, k2⟩; have T2 := Lib.hid (T1.out.trans k2); have U2 := Lib.hid (K1.out.trans k2); clear k2; obtain ⟨b0, b1, b2, b3⟩ := bx4 (B0.out.since U2.out)) | (go_at_call 21; (with_reducible refine (AK.out _ T2.out).mono ?_); rintro e w3 ⟨rfl, k3⟩; have T3 := Lib.hid (T2.out.trans k3); have U3 := Lib.hid (U2.out.trans k3); clear k3; obtain ⟨b0, b1, b2, b3⟩ := bx4 (B0.out.since U3.out)) | (at_builtin; refine wpList_copyE (by rfl) _ _ rfl rfl rfl ?_; intro BB d w5 k5; have T5 := Lib.hid (T3.out.trans k5); have U5 := Lib.hid (U3.out.trans k5); have SB := Lib.hid (show Sl 1 QI w5 (.slice BB 0 d) (movedL a2 []) from sl_none BB d); clear k5))
          go_loopw [43] (fun i wr => i = .int .i64 0 ∧ wr = w5) (fun i _ => 0)
          case atStart => exact ⟨rfl, rfl⟩
          case round =>
            obtain ⟨rfl, rfl⟩ := hrel
            have HLB := Lib.hid (show (movedL a2 []).length ≤ 1100000 by rw [movedL, List.length_map]; have := HL1.out; omega)
            have AK2 := Lib.hid (rasked_any _ _ z0 _ wr (HC.out.since T5.out) SB.out HCX.out HCA.out HLB.out)
            rw [HBK.out] at AK2
            obtain ⟨b0, b1, b2, b3⟩ := bx4 (B0.out.since U5.out)
            cases b with
            | false =>
              go_wp2_with (first | (go_at_call 21; (with_reducible refine (AK2.out).mono ?_); rintro e w9 ⟨rfl, k9⟩; have T9 := Lib.hid (T5.out.trans k9); have U9 := Lib.hid (U5.out.trans k9); have V9 := Lib.hid k9; clear k9; obtain ⟨b0, b1, b2, b3⟩ := bx4 (B0.out.since U9.out)))
              go_ret
              exact ⟨rfl, T9.out⟩
            | true =>
              have HB2 := Lib.hid (fun W k => holds_at (HC.out.since T5.out) SB.out HCA.out HLB.out (MV.out rfl) W k)
              clear MV AK
              go_wp2_with (first | (go_at_call 21; (with_reducible refine (AK2.out).mono ?_); rintro e w9 ⟨rfl, k9⟩; have T9 := Lib.hid (T5.out.trans k9); have U9 := Lib.hid (U5.out.trans k9); have V9 := Lib.hid k9; clear k9; obtain ⟨b0, b1, b2, b3⟩ := bx4 (B0.out.since U9.out)))
              have hr0 : Since w9 w9.drew := Since.drew (Since.refl w9)
              refine wp_region_noPanic ?_
              refine Reg.wp_region_G (S := fun _ => True) (fun j => [].contains j) (by kernel_rfl) trivial ?_
              refine' Reg.wpG_take (i := 0) (oi := { dst := some 70, op := Op.load 25 (Operand.tmp 3), type := 25, pos := "law.go:141", after := #[], guard := none }) (v := _) [2, 5, 6, 7] [] rfl rfl (by kernel_rfl) (by kernel_rfl) (by kernel_rfl) (by kernel_rfl) (by kernel_rfl) (by kernel_rfl) (by kernel_rfl) (fun _ _ _ h => h) (Or.inl ⟨by rfl, Or.inl ?hy16⟩) ?rest16
              case hy16 => (intro w' kk ss; obtain ⟨x0, x1, x2', x3⟩ := bx4 (B0.out.since (U9.out.trans (hr0.trans kk))); go_simp; first | done | with_reducible rfl)
              try simp only [Act.put, List.setIfInBounds_toArray, List.set_cons_zero, List.set_cons_succ]
              refine' Reg.wpG_take (i := 1) (oi := { dst := some 71, op := Op.move (Operand.tmp 1), type := 23, pos := "law.go:141", after := #[], guard := none }) (v := _) [2, 5, 6, 7] [] rfl rfl (by kernel_rfl) (by kernel_rfl) (by kernel_rfl) (by kernel_rfl) (by kernel_rfl) (by kernel_rfl) (by kernel_rfl) (fun _ _ _ h => h) (Or.inl ⟨by rfl, Or.inl ?hy17⟩) ?rest17
              case hy17 => (intro w' kk ss; obtain ⟨x0, x1, x2', x3⟩ := bx4 (B0.out.since (U9.out.trans (hr0.trans kk))); go_simp; first | done | with_reducible rfl)
              try simp only [Act.put, List.setIfInBounds_toArray, List.set_cons_zero, List.set_cons_succ]
              refine Reg.wpG_take (i := 2) (oi := { dst := some 72, op := Op.call { callee := Callee.value (Operand.func 14), args := #[Operand.tmp 70, Operand.tmp 71], argTypes := #[25, 23] }, type := 4, pos := "law.go:141", after := #[{ on := 0, ground := Ground.data }, { on := 1, ground := Ground.data }], guard := none }) (v := .bool R) [5, 6, 7] [] rfl rfl (by kernel_rfl) (by kernel_rfl) (by kernel_rfl) (by kernel_rfl) (by kernel_rfl) (by kernel_rfl) (by kernel_rfl) (fun _ _ _ h => h) (Or.inl ⟨by rfl, Or.inr ⟨14, #[.agg #[.int .i64 19, .slice X0 n0 xc0, .slice Y0 m0 yc0, .int .i64 e0], .slice a1 0 cap1], fun w' kk ss => ⟨?_, ?_⟩⟩⟩) ?_
              · (try dsimp only at ss); go_simp
              · exact HH.out w' (T9.out.trans (hr0.trans kk))
              try simp only [Act.put, List.setIfInBounds_toArray, List.set_cons_zero, List.set_cons_succ]
              refine' Reg.wpG_take (i := 3) (oi := { dst := some 73, op := Op.load 25 (Operand.tmp 3), type := 25, pos := "law.go:141", after := #[], guard := none }) (v := _) [5, 6, 7] [] rfl rfl (by kernel_rfl) (by kernel_rfl) (by kernel_rfl) (by kernel_rfl) (by kernel_rfl) (by kernel_rfl) (by kernel_rfl) (fun _ _ _ h => h) (Or.inl ⟨by rfl, Or.inl ?hy18⟩) ?rest18
              case hy18 => (intro w' kk ss; obtain ⟨x0, x1, x2', x3⟩ := bx4 (B0.out.since (U9.out.trans (hr0.trans kk))); go_simp; first | done | with_reducible rfl)
              try simp only [Act.put, List.setIfInBounds_toArray, List.set_cons_zero, List.set_cons_succ]
              refine' Reg.wpG_take (i := 4) (oi := { dst := some 74, op := Op.move (Operand.tmp 7), type := 23, pos := "law.go:141", after := #[], guard := none }) (v := _) [5, 6, 7] [] rfl rfl (by kernel_rfl) (by kernel_rfl) (by kernel_rfl) (by kernel_rfl) (by kernel_rfl) (by kernel_rfl) (by kernel_rfl) (fun _ _ _ h => h) (Or.inl ⟨by rfl, Or.inl ?hy19⟩) ?rest19
              case hy19 => (intro w' kk ss; obtain ⟨x0, x1, x2', x3⟩ := bx4 (B0.out.since (U9.out.trans (hr0.trans kk))); go_simp; first | done | with_reducible rfl)
              try simp only [Act.put, List.setIfInBounds_toArray, List.set_cons_zero, List.set_cons_succ]
              refine Reg.wpG_take (i := 5) (oi := { dst := some 75, op := Op.call { callee := Callee.value (Operand.func 14), args := #[Operand.tmp 73, Operand.tmp 74], argTypes := #[25, 23] }, type := 4, pos := "law.go:141", after := #[{ on := 3, ground := Ground.data }, { on := 4, ground := Ground.data }, { on := 2, ground := Ground.chain }], guard := none }) (v := .bool R) [6, 7] [] rfl rfl (by kernel_rfl) (by kernel_rfl) (by kernel_rfl) (by kernel_rfl) (by kernel_rfl) (by kernel_rfl) (by kernel_rfl) (fun _ _ _ h => h) (Or.inl ⟨by rfl, Or.inr ⟨14, #[.agg #[.int .i64 19, .slice X0 n0 xc0, .slice Y0 m0 yc0, .int .i64 e0], .slice BB 0 d], fun w' kk ss => ⟨?_, ?_⟩⟩⟩) ?_
              · (try dsimp only at ss); go_simp
              · exact HB2.out w' (V9.out.trans (hr0.trans kk))
              try simp only [Act.put, List.setIfInBounds_toArray, List.set_cons_zero, List.set_cons_succ]
              refine' Reg.wpG_take (i := 6) (oi := { dst := some 76, op := Op.binOp BinOp.eql 4 (Operand.tmp 72) (Operand.tmp 75) 4, type := 4, pos := "law.go:141", after := #[{ on := 2, ground := Ground.data }, { on := 5, ground := Ground.data }], guard := none }) (v := _) [7] [] rfl rfl (by kernel_rfl) (by kernel_rfl) (by kernel_rfl) (by kernel_rfl) (by kernel_rfl) (by kernel_rfl) (by kernel_rfl) (fun _ _ _ h => h) (Or.inl ⟨by rfl, Or.inl ?hy20⟩) ?rest20
              case hy20 => (intro w' kk ss; obtain ⟨x0, x1, x2', x3⟩ := bx4 (B0.out.since (U9.out.trans (hr0.trans kk))); go_simp; first | done | with_reducible rfl)
              try simp only [Act.put, List.setIfInBounds_toArray, List.set_cons_zero, List.set_cons_succ]
              refine' Reg.wpG_take (i := 7) (oi := { dst := some 6, op := Op.assign (Operand.tmp 76), type := 4, pos := "law.go:141", after := #[{ on := 6, ground := Ground.data }, { on := 5, ground := Ground.chain }, { on := 0, ground := Ground.phase }, { on := 1, ground := Ground.phase }, { on := 2, ground := Ground.phase }, { on := 3, ground := Ground.phase }, { on := 4, ground := Ground.phase }, { on := 5, ground := Ground.phase }, { on := 6, ground := Ground.phase }], guard := none }) (v := _) [] [] rfl rfl (by kernel_rfl) (by kernel_rfl) (by kernel_rfl) (by kernel_rfl) (by kernel_rfl) (by kernel_rfl) (by kernel_rfl) (fun _ _ _ h => h) (Or.inl ⟨by rfl, Or.inl ?hy21⟩) ?rest21
              case hy21 => (intro w' kk ss; obtain ⟨x0, x1, x2', x3⟩ := bx4 (B0.out.since (U9.out.trans (hr0.trans kk))); go_simp; first | done | with_reducible rfl)
              try simp only [Act.put, List.setIfInBounds_toArray, List.set_cons_zero, List.set_cons_succ]
              refine Reg.wpG_done (by kernel_rfl) (fun we ke se => ?_) _
              refine NoPanic.normal ?_
              have hr0 := hr0.trans ke
              clear ke
              go_wp2
              go_ret
              exact RetT.of (by simp) (T9.out.trans hr0)
        have hp1 : 0 < len1 := by omega
        clear c0 hl1
        go_enter Try.func7, Try.ntmps7
        go_wp2_with (first | (go_at_call 10; (with_reducible refine (AL.out _).mono ?_); rintro e w1 ⟨rfl, k1⟩; have K1 := Lib.hid k1; have T1 := Lib.hid (S0.out.trans k1); obtain ⟨b0, b1, b2, b3⟩ := bx4 (B0.out.since k1); clear k1) | (go_at_call 11; (with_reducible refine (FI.out _ T1.out).mono ?_); rintro e w2 ⟨rfl, k2⟩; have T2 := Lib.hid (T1.out.trans k2); have U2 := Lib.hid (K1.out.trans k2); clear k2; obtain ⟨b0, b1, b2, b3⟩ := bx4 (B0.out.since U2.out)) | (go_at_call 21; (with_reducible refine (AK.out _ T2.out).mono ?_); rintro e w3 ⟨rfl, k3⟩; have T3 := Lib.hid (T2.out.trans k3); have U3 := Lib.hid (U2.out.trans k3); clear k3; obtain ⟨b0, b1, b2, b3⟩ := bx4 (B0.out.since U3.out)) | (at_builtin; refine wpList_copyI (HA.out.since stI T3.out) hp1 (by omega) (by rfl) _ _ rfl rfl rfl ?_; intro g d cur w4 hb hg hd hcur k4; have HBX := Lib.hid hb; have HCUR := Lib.hid hcur; have HG := Lib.hid (show w.heap.size ≤ g by have := T3.out.size; omega); have HG3 := Lib.hid hg; have HD := Lib.hid hd; have K4 := Lib.hid k4; clear hb hg hcur k4))
        go_loopw [43] (fun i wr => ∃ (k : Nat) (cur : Array Value), i = .int .i64 (k : Int) ∧ k ≤ len1 ∧ Hid (Bx wr g cur 2) ∧ Hid (Beg cur (mvd a2 z1 k)) ∧ Hid (Since w3 wr)) (fun i _ => len1 - (intOf i).toNat)
        case atStart => exact ⟨0, cur, rfl, Nat.zero_le _, HBX, Lib.hid (by rw [mvd_zero]; exact HCUR.out), K4⟩
        case round =>
          obtain ⟨k, cu, rfl, hk, HX, HE, HW⟩ := hrel
          by_cases hkn : k < len1
          · skip
            have hkl : k < z1.length := by have := HL1.out; omega
            have hcell := HX.out.cell k
            rw [HE.out k _ (mvd_get a2 hkl)] at hcell
            have hfro := HX.out.no k
            have HY := Lib.hid (fun (h : within z1[k] = true) => mvd_yes a2 hkl h)
            have HN := Lib.hid (fun (h : within z1[k] = false) => mvd_no a2 hkl h)
            have HKL := Lib.hid (show k < (mvd a2 z1 k).length by rw [mvd_len]; exact hkl)
            generalize z1[k] = y at *
            clear hkl
            by_cases ym : within y = true
            · skip
              obtain ⟨y1, y2⟩ := (within_iff2 y).1 ym
              have HZ := Lib.hid (HY.out ym)
              clear HY HN ym
              go_wp2
              go_roundw
              case rel => exact ⟨k + 1, _, by go_num, by omega, Lib.hid (bxset HX.out k (.int .i64 (y + a2)) rfl), Lib.hid (HZ.out ▸ cur_set HE.out HKL.out (y + a2)), Lib.hid (HW.out.set (p := ⟨g, k, none⟩) HG3.out _)⟩
              case measure => simp [intOf]; omega
            · skip
              have ym2 : within y = false := by simpa using ym
              have HZ := Lib.hid (HN.out ym2)
              have hyn : y < -1048576 ∨ 1048576 < y := (by rw [within_iff2] at ym; omega)
              clear HY HN ym ym2
              rcases hyn with hyn | hyn
              all_goals
                go_wp2
                go_roundw
                case rel => exact ⟨k + 1, _, by go_num, by omega, HX, Lib.hid (HZ.out ▸ HE.out), HW⟩
                case measure => simp [intOf]; omega
          · skip
            obtain rfl : len1 = k := by omega
            have T5 := Lib.hid (T3.out.trans HW.out)
            have U5 := Lib.hid (U3.out.trans HW.out)
            have SB := Lib.hid (show Sl 1 QI wr (.slice (some ⟨g, 0, none⟩) len1 d) (movedL a2 z1) from sl_bx HX.out (by rw [movedL, List.length_map]; exact HL1.out) HD.out (by have := HE.out; rw [HL1.out.symm, mvd_end] at this; exact this))
            clear HX HE HW HBX HCUR K4
            skip
            have HLB := Lib.hid (show (movedL a2 z1).length ≤ 1100000 by rw [movedL, List.length_map]; have := HL1.out; omega)
            have AK2 := Lib.hid (rasked_any _ _ z0 _ wr (HC.out.since T5.out) SB.out HCX.out HCA.out HLB.out)
            rw [HBK.out] at AK2
            obtain ⟨b0, b1, b2, b3⟩ := bx4 (B0.out.since U5.out)
            cases b with
            | false =>
              go_wp2_with (first | (go_at_call 21; (with_reducible refine (AK2.out).mono ?_); rintro e w9 ⟨rfl, k9⟩; have T9 := Lib.hid (T5.out.trans k9); have U9 := Lib.hid (U5.out.trans k9); have V9 := Lib.hid k9; clear k9; obtain ⟨b0, b1, b2, b3⟩ := bx4 (B0.out.since U9.out)))
              go_ret
              exact ⟨rfl, T9.out⟩
            | true =>
              have HB2 := Lib.hid (fun W k => holds_at (HC.out.since T5.out) SB.out HCA.out HLB.out (MV.out rfl) W k)
              clear MV AK
              go_wp2_with (first | (go_at_call 21; (with_reducible refine (AK2.out).mono ?_); rintro e w9 ⟨rfl, k9⟩; have T9 := Lib.hid (T5.out.trans k9); have U9 := Lib.hid (U5.out.trans k9); have V9 := Lib.hid k9; clear k9; obtain ⟨b0, b1, b2, b3⟩ := bx4 (B0.out.since U9.out)))
              have hr0 : Since w9 w9.drew := Since.drew (Since.refl w9)
              refine wp_region_noPanic ?_
              refine Reg.wp_region_G (S := fun _ => True) (fun j => [].contains j) (by kernel_rfl) trivial ?_
              refine' Reg.wpG_take (i := 0) (oi := { dst := some 70, op := Op.load 25 (Operand.tmp 3), type := 25, pos := "law.go:141", after := #[], guard := none }) (v := _) [2, 5, 6, 7] [] rfl rfl (by kernel_rfl) (by kernel_rfl) (by kernel_rfl) (by kernel_rfl) (by kernel_rfl) (by kernel_rfl) (by kernel_rfl) (fun _ _ _ h => h) (Or.inl ⟨by rfl, Or.inl ?hy23⟩) ?rest23
              case hy23 => (intro w' kk ss; obtain ⟨x0, x1, x2', x3⟩ := bx4 (B0.out.since (U9.out.trans (hr0.trans kk))); go_simp; first | done | with_reducible rfl)
              try simp only [Act.put, List.setIfInBounds_toArray, List.set_cons_zero, List.set_cons_succ]
              refine' Reg.wpG_take (i := 1) (oi := { dst := some 71, op := Op.move (Operand.tmp 1), type := 23, pos := "law.go:141", after := #[], guard := none }) (v := _) [2, 5, 6, 7] [] rfl rfl (by kernel_rfl) (by kernel_rfl) (by kernel_rfl) (by kernel_rfl) (by kernel_rfl) (by kernel_rfl) (by kernel_rfl) (fun _ _ _ h => h) (Or.inl ⟨by rfl, Or.inl ?hy24⟩) ?rest24
              case hy24 => (intro w' kk ss; obtain ⟨x0, x1, x2', x3⟩ := bx4 (B0.out.since (U9.out.trans (hr0.trans kk))); go_simp; first | done | with_reducible rfl)
              try simp only [Act.put, List.setIfInBounds_toArray, List.set_cons_zero, List.set_cons_succ]
              refine Reg.wpG_take (i := 2) (oi := { dst := some 72, op := Op.call { callee := Callee.value (Operand.func 14), args := #[Operand.tmp 70, Operand.tmp 71], argTypes := #[25, 23] }, type := 4, pos := "law.go:141", after := #[{ on := 0, ground := Ground.data }, { on := 1, ground := Ground.data }], guard := none }) (v := .bool R) [5, 6, 7] [] rfl rfl (by kernel_rfl) (by kernel_rfl) (by kernel_rfl) (by kernel_rfl) (by kernel_rfl) (by kernel_rfl) (by kernel_rfl) (fun _ _ _ h => h) (Or.inl ⟨by rfl, Or.inr ⟨14, #[.agg #[.int .i64 19, .slice X0 n0 xc0, .slice Y0 m0 yc0, .int .i64 e0], .slice a1 len1 cap1], fun w' kk ss => ⟨?_, ?_⟩⟩⟩) ?_
              · (try dsimp only at ss); go_simp
              · exact HH.out w' (T9.out.trans (hr0.trans kk))
              try simp only [Act.put, List.setIfInBounds_toArray, List.set_cons_zero, List.set_cons_succ]
              refine' Reg.wpG_take (i := 3) (oi := { dst := some 73, op := Op.load 25 (Operand.tmp 3), type := 25, pos := "law.go:141", after := #[], guard := none }) (v := _) [5, 6, 7] [] rfl rfl (by kernel_rfl) (by kernel_rfl) (by kernel_rfl) (by kernel_rfl) (by kernel_rfl) (by kernel_rfl) (by kernel_rfl) (fun _ _ _ h => h) (Or.inl ⟨by rfl, Or.inl ?hy25⟩) ?rest25
              case hy25 => (intro w' kk ss; obtain ⟨x0, x1, x2', x3⟩ := bx4 (B0.out.since (U9.out.trans (hr0.trans kk))); go_simp; first | done | with_reducible rfl)
              try simp only [Act.put, List.setIfInBounds_toArray, List.set_cons_zero, List.set_cons_succ]
              refine' Reg.wpG_take (i := 4) (oi := { dst := some 74, op := Op.move (Operand.tmp 7), type := 23, pos := "law.go:141", after := #[], guard := none }) (v := _) [5, 6, 7] [] rfl rfl (by kernel_rfl) (by kernel_rfl) (by kernel_rfl) (by kernel_rfl) (by kernel_rfl) (by kernel_rfl) (by kernel_rfl) (fun _ _ _ h => h) (Or.inl ⟨by rfl, Or.inl ?hy26⟩) ?rest26
              case hy26 => (intro w' kk ss; obtain ⟨x0, x1, x2', x3⟩ := bx4 (B0.out.since (U9.out.trans (hr0.trans kk))); go_simp; first | done | with_reducible rfl)
              try simp only [Act.put, List.setIfInBounds_toArray, List.set_cons_zero, List.set_cons_succ]
              refine Reg.wpG_take (i := 5) (oi := { dst := some 75, op := Op.call { callee := Callee.value (Operand.func 14), args := #[Operand.tmp 73, Operand.tmp 74], argTypes := #[25, 23] }, type := 4, pos := "law.go:141", after := #[{ on := 3, ground := Ground.data }, { on := 4, ground := Ground.data }, { on := 2, ground := Ground.chain }], guard := none }) (v := .bool R) [6, 7] [] rfl rfl (by kernel_rfl) (by kernel_rfl) (by kernel_rfl) (by kernel_rfl) (by kernel_rfl) (by kernel_rfl) (by kernel_rfl) (fun _ _ _ h => h) (Or.inl ⟨by rfl, Or.inr ⟨14, #[.agg #[.int .i64 19, .slice X0 n0 xc0, .slice Y0 m0 yc0, .int .i64 e0], .slice (some ⟨g, 0, none⟩) len1 d], fun w' kk ss => ⟨?_, ?_⟩⟩⟩) ?_
              · (try dsimp only at ss); go_simp
              · exact HB2.out w' (V9.out.trans (hr0.trans kk))
              try simp only [Act.put, List.setIfInBounds_toArray, List.set_cons_zero, List.set_cons_succ]
              refine' Reg.wpG_take (i := 6) (oi := { dst := some 76, op := Op.binOp BinOp.eql 4 (Operand.tmp 72) (Operand.tmp 75) 4, type := 4, pos := "law.go:141", after := #[{ on := 2, ground := Ground.data }, { on := 5, ground := Ground.data }], guard := none }) (v := _) [7] [] rfl rfl (by kernel_rfl) (by kernel_rfl) (by kernel_rfl) (by kernel_rfl) (by kernel_rfl) (by kernel_rfl) (by kernel_rfl) (fun _ _ _ h => h) (Or.inl ⟨by rfl, Or.inl ?hy27⟩) ?rest27
              case hy27 => (intro w' kk ss; obtain ⟨x0, x1, x2', x3⟩ := bx4 (B0.out.since (U9.out.trans (hr0.trans kk))); go_simp; first | done | with_reducible rfl)
              try simp only [Act.put, List.setIfInBounds_toArray, List.set_cons_zero, List.set_cons_succ]
              refine' Reg.wpG_take (i := 7) (oi := { dst := some 6, op := Op.assign (Operand.tmp 76), type := 4, pos := "law.go:141", after := #[{ on := 6, ground := Ground.data }, { on := 5, ground := Ground.chain }, { on := 0, ground := Ground.phase }, { on := 1, ground := Ground.phase }, { on := 2, ground := Ground.phase }, { on := 3, ground := Ground.phase }, { on := 4, ground := Ground.phase }, { on := 5, ground := Ground.phase }, { on := 6, ground := Ground.phase }], guard := none }) (v := _) [] [] rfl rfl (by kernel_rfl) (by kernel_rfl) (by kernel_rfl) (by kernel_rfl) (by kernel_rfl) (by kernel_rfl) (by kernel_rfl) (fun _ _ _ h => h) (Or.inl ⟨by rfl, Or.inl ?hy28⟩) ?rest28
              case hy28 => (intro w' kk ss; obtain ⟨x0, x1, x2', x3⟩ := bx4 (B0.out.since (U9.out.trans (hr0.trans kk))); go_simp; first | done | with_reducible rfl)
              try simp only [Act.put, List.setIfInBounds_toArray, List.set_cons_zero, List.set_cons_succ]
              refine Reg.wpG_done (by kernel_rfl) (fun we ke se => ?_) _
              refine NoPanic.normal ?_
              have hr0 := hr0.trans ke
              clear ke
              go_wp2
              go_ret
              exact RetT.of (by simp) (T9.out.trans hr0)

set_option maxRecDepth 100000 in
theorem lifted (os : Os) (started : os.Started) (H : Type) (enc : TypeId × Value → H) :
    ReturnsInHanded {} Try.checked os 7 .any (Rows.senseMovedSpec.pre6 enc Try.prog Try.f7 Rows.senseMovedRow.domain false) (Rows.senseMovedSpec.post enc Try.prog Try.f7 false true false false) := by
  refine returnsInHanded_of_change (C := Try.checked) own started (by kernel_rfl) Try.func7
    (ChangeSpec.witness6 (enc := enc) (C := Try.checked) false ⟨#[], #[.agg #[.int .i64 0, .slice none 0 0, .slice none 0 0, .int .i64 0], .slice none 0 0, .int .i64 0], []⟩ 8 (by kernel_rfl) (by kernel_rfl) (by kernel_rfl) (by kernel_rfl)) ?_
  intro W base args ds gs before hval0 hW hcnd _
  have hval : ∀ (j : Nat) t v, Try.f7.params[j]? = some t → args[j]? = some v → Value.okWide Try.prog W .any base t v := hval0
  have hW' := hW
  obtain ⟨p, q, hA0, hV, rfl, hfz, hnd⟩ := hW
  have hA : DataW.TrodAll enc Try.prog W 0 (fun _ => true) true Try.f7.params.toList args.toList ds p := hA0
  rw [Try.params7] at hA hval
  obtain ⟨v0, vs0, d0, ds0, p0, q0, hargs, rfl, rfl, h0, r0⟩ := trodAll_cons hA
  obtain ⟨v1, vs1, d1, ds1, p1, q1, rfl, rfl, rfl, h1, r1⟩ := trodAll_cons r0
  obtain ⟨v2, vs2, d2, ds2, p2, q2, rfl, rfl, rfl, h2, r2⟩ := trodAll_cons r1
  obtain ⟨rfl, rfl, rfl⟩ := trodAll_nil r2
  obtain rfl : args = #[v0, v1, v2] := by cases args; simp_all
  obtain ⟨rfl, rfl⟩ := trodVars_none hV
  obtain ⟨k0k, X0, n0, xc0, Y0, m0, yc0, e0, rfl, z0, w0⟩ := Go.Proofs.Ytfcinefmnigacaa.Sn.con_in ⟨Try.underlying25, ⟨rfl, rfl, rfl, rfl⟩, ⟨by kernel_rfl, by kernel_rfl, by kernel_rfl, by kernel_rfl⟩, Try.underlying3, Try.underlying22, Try.underlying23, Try.underlying2, Try.underlying3, by kernel_rfl, Try.underlying2, by kernel_rfl⟩ (by kernel_rfl) (hval 0 25 v0 rfl rfl) h0
  have k0 := h0
  have lt0 : ∀ x ∈ p0, x.block < W.heap.size := by obtain ⟨m, hm⟩ := k0; exact DataW.trod_lt m _ _ _ hm
  obtain ⟨a1, len1, cap1, rfl⟩ := okWide_slice Try.underlying23 (hval 1 23 v1 rfl rfl)
  have k1 := h1
  have lt1 : ∀ x ∈ p1, x.block < W.heap.size := by obtain ⟨m, hm⟩ := k1; exact DataW.trod_lt m _ _ _ hm
  obtain ⟨z1, w1⟩ : ∃ zs, Go.Proofs.Ytfcinefmnigacaa.Sn.IntsIn W a1 len1 cap1 zs := by
    obtain ⟨fuel, hf⟩ := h1
    exact Go.Proofs.Ytfcinefmnigacaa.Sn.ints_in Try.underlying23 Try.underlying2 (by kernel_rfl) hf
  obtain ⟨a2, rfl, rfl, rfl, w2⟩ := open_int Try.underlying2 (hval 2 2 v2 rfl rfl) h2
  clear hA0 hval0
  refine (walk k0k X0 n0 xc0 Y0 m0 yc0 e0 z0 a1 len1 cap1 z1 a2 W w0 w1 w2).mono fun e W' ⟨he, bel⟩ => ?_
  subst he
  exact ⟨_, rfl, _, _, _, [], _, [], hW', trodAll_mk1 (shut_bool Try.underlying4 _), (trodAll_cons_mk (Below.trod laidOut (by kernel_rfl) (of_decide_eq_true (by kernel_rfl)) k0 bel lt0) (trodAll_cons_mk (Below.trod laidOut (by kernel_rfl) (of_decide_eq_true (by kernel_rfl)) k1 bel lt1) (trodAll_cons_mk (shut_int Try.underlying2 w2) trodAll_mk0))), rfl, bel.frame _, fun h => by cases h⟩

theorem over : Rows.senseMovedRow.holds Try.pinned (OpenSpec.ofChange Rows.senseMovedSpec) :=
  OpenClaim.holds_of_wide 7 Try.f7 rfl rfl rfl rfl rfl rfl rfl ⟨rfl, rfl, rfl, rfl, rfl⟩ rfl rfl rfl rfl rfl (by kernel_rfl) Try.func7 (by kernel_rfl)
    (of_decide_eq_true (by kernel_rfl)) (by unfold Func.isWrapper; first | (rw [if_pos (by decide +kernel)]; kernel_rfl) | (rw [if_neg (by decide +kernel)]; exact ⟨rfl, rfl⟩))
    (fun os started H enc _ => lifted os started H enc)

/-- THE STATEMENT -/
theorem proved : Rows.SenseMovedSaid := over
#print axioms proved
end Go.Proofs.Ytfcinefmnigacaa.senseMoved
