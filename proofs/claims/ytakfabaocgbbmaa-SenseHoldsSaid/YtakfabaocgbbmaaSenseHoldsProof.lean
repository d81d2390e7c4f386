/-
  For all constraints and values: the law SenseHolds returns true (whether any constraint holds of any values, and what their sum is, is told as the document says). No condition.
-/
import Derived.Test.YtakfabaocgbbmaaRows
import Derived.WalkKit
import Derived.ProofKit
import Derived.OpenShut
import Derived.ShutString
import Derived.ChangeOld
import Derived.Below
import Derived.Test.YtakfabaocgbbmaaUz
import Derived.Test.YtakfabaocgbbmaaKza
import Derived.Test.YtakfabaocgbbmaaKs
namespace Go.Proofs.Ytakfabaocgbbmaa.senseHolds
open Go.ChangeShapes Go.WideShapes Go.ChangeAt Go.RowKit
open Go.ChangeMaps (open_string shut_string)
open Go.Proofs.Ytakfabaocgbbmaa.Dig Go.Proofs.Ytakfabaocgbbmaa.Zs Go.Proofs.Ytakfabaocgbbmaa.Tr Go.Proofs.Ytakfabaocgbbmaa.Sn
open Go.Proofs.Ytakfabaocgbbmaa.Ti (Sl QR stR)
set_option linter.unusedVariables false

theorem own : ownKnob Try.prog.godebug = none := by kernel_rfl
theorem laidOut : laidOutB Try.prog = true := by kernel_rfl

/-- WHAT THE WALK IS TOLD OF A SLICE OF INTEGERS THAT CAME IN: it is nil; or it leads to a row of 'cap' cells, the numbers 'zs' (the first 'len' are its elements, the rest its spare room), each fitting its kind. -/
def IsRow (k : IntKind) (w : World) (a : Option Addr) (len cap : Nat) (zs : List Int) : Prop :=
  (a = none ∧ len = 0 ∧ cap = 0 ∧ zs = []) ∨
  ∃ x, a = some x ∧ len ≤ cap ∧ cap ≤ maxLen ∧ zs.length = cap ∧ (∀ i, i < zs.length → w.cell? (x.add i) = some (.int k (zs.getD i 0))) ∧ ∀ n ∈ zs, (Lit.int k n).wf = true

set_option maxRecDepth 100000 in
set_option maxHeartbeats 3000000 in
theorem walk (k0k : Int) (X0 : Option Addr) (n0 xc0 : Nat) (Y0 : Option Addr) (m0 yc0 : Nat) (e0 : Int) (z0 : Go.Proofs.Ytakfabaocgbbmaa.Sn.Cn) (a1 : Option Addr) (len1 cap1 : Nat) (z1 : List Int) (w : World) (w0 : Go.Proofs.Ytakfabaocgbbmaa.Sn.ConIn w k0k X0 n0 xc0 Y0 m0 yc0 e0 z0) (w1 : Go.Proofs.Ytakfabaocgbbmaa.Sn.IntsIn w a1 len1 cap1 z1) :
    Calls Try.prog 9 #[.agg #[.int .i64 k0k, .slice X0 n0 xc0, .slice Y0 m0 yc0, .int .i64 e0], .slice a1 len1 cap1] w fun e w' => e = .returned (.bool true) ∧ Since w w' := by
  obtain ⟨hC, hBC, hcx, hca⟩ := w0
  obtain ⟨hl1, hA, hBA, hlA⟩ := w1
  subst hl1
  have AL := Lib.hid alive_any
  have FI := Lib.hid (fun W (k : Since w W) => fits_any _ _ z0 z1 W (hC.since k) (hA.since stI k) (mlen hcx) (mlen hca) (mlen hlA))
  obtain ⟨f, hf⟩ : ∃ f, fitsL z0 z1 = f := ⟨_, rfl⟩
  rw [hf] at FI
  have S0 := Lib.hid (since_alloc w (.cells #[.int .i64 k0k, .slice X0 n0 xc0, .slice Y0 m0 yc0, .int .i64 e0] 25))
  have B0 := Lib.hid (Bx.fresh w #[.int .i64 k0k, .slice X0 n0 xc0, .slice Y0 m0 yc0, .int .i64 e0] 25)
  obtain ⟨b0, b1, b2, b3⟩ := bx4 B0.out
  cases f with
  | false =>
    clear hf hC hA hBC hcx hca hBA hlA
    go_enter Try.func9, Try.ntmps9
    go_wp2_with (first | (go_at_call 25; (with_reducible refine (AL.out _).mono ?_); rintro e w1 ⟨rfl, k1⟩; have U1 := Lib.hid k1; have T1 := Lib.hid (S0.out.trans k1); obtain ⟨b0, b1, b2, b3⟩ := bx4 (B0.out.since k1); clear k1) | (go_at_call 26; (with_reducible refine (FI.out _ T1.out).mono ?_); rintro e w2 ⟨rfl, k2⟩; have U2 := Lib.hid (U1.out.trans k2); have T2 := Lib.hid (T1.out.trans k2); obtain ⟨b0, b1, b2, b3⟩ := bx4 (B0.out.since U2.out); clear k2))
    go_ret
    exact ⟨rfl, T2.out⟩
  | true =>
  obtain ⟨hf1, hf2, hf3⟩ := fitsL_parts hf
  have SA := Lib.hid (fun W (k : Since w W) => ssum_any _ _ z0 z1 W (hC.since k) (hA.since stI k) (by omega) (by omega))
  have SB := Lib.hid (fun W (k : Since w W) => rsum2_any _ _ z0 z1 W (hC.since k) (hA.since stI k) (by omega) (by omega) (by omega))
  obtain ⟨R, hR⟩ : ∃ R, holds z0 z1 = R := ⟨_, rfl⟩
  have HA := Lib.hid (fun W (k : Since w W) => show Calls Try.prog 29 #[.agg #[.int .i64 k0k, .slice X0 n0 xc0, .slice Y0 m0 yc0, .int .i64 e0], .slice a1 z1.length cap1] W (fun e w' => e = .returned (.bool R) ∧ Since W w' ∧ True) from (sholds_any _ _ z0 z1 W (hC.since k) (hA.since stI k) (by omega) (by omega)).mono fun e w' h => by unfold Go.Proofs.Ytakfabaocgbbmaa.Zs.RetT at h; rw [hR] at h; exact ⟨h.1, h.2, trivial⟩)
  have HB := Lib.hid (fun W (k : Since w W) => show Calls Try.prog 30 #[.agg #[.int .i64 k0k, .slice X0 n0 xc0, .slice Y0 m0 yc0, .int .i64 e0], .slice a1 z1.length cap1] W (fun e w' => e = .returned (.bool R) ∧ Since W w' ∧ True) from (rholds_any _ _ z0 z1 W (hC.since k) (hA.since stI k) (by omega) (by omega) (by omega)).mono fun e w' h => by unfold Go.Proofs.Ytakfabaocgbbmaa.Zs.RetT at h; rw [hR] at h; exact ⟨h.1, h.2, trivial⟩)
  unfold RetN at SA SB
  generalize (sumOf z0 z1).getD 0 = q0 at *
  generalize (sumOf z0 z1).isSome = q1 at *
  clear hf hC hA hBC hcx hca hBA hlA hR hf1 hf2
  go_enter Try.func9, Try.ntmps9
  go_wp2_with (first | (go_at_call 25; (with_reducible refine (AL.out _).mono ?_); rintro e w1 ⟨rfl, k1⟩; have U1 := Lib.hid k1; have T1 := Lib.hid (S0.out.trans k1); obtain ⟨b0, b1, b2, b3⟩ := bx4 (B0.out.since k1); clear k1) | (go_at_call 26; (with_reducible refine (FI.out _ T1.out).mono ?_); rintro e w2 ⟨rfl, k2⟩; have U2 := Lib.hid (U1.out.trans k2); have T2 := Lib.hid (T1.out.trans k2); obtain ⟨b0, b1, b2, b3⟩ := bx4 (B0.out.since U2.out); clear k2) | (go_at_call 27; (with_reducible refine (SA.out _ T2.out).mono ?_); rintro e w3 ⟨rfl, k3⟩; have U3 := Lib.hid (U2.out.trans k3); have T3 := Lib.hid (T2.out.trans k3); obtain ⟨b0, b1, b2, b3⟩ := bx4 (B0.out.since U3.out); clear k3) | (go_at_call 28; (with_reducible refine (SB.out _ T3.out).mono ?_); rintro e w4 ⟨rfl, k4⟩; have U4 := Lib.hid (U3.out.trans k4); have T4 := Lib.hid (T3.out.trans k4); obtain ⟨b0, b1, b2, b3⟩ := bx4 (B0.out.since U4.out); clear k4))
  have hr0 : Since w4 w4.drew := Since.drew (Since.refl w4)
  refine wp_region_noPanic ?_
  refine Reg.wp_region_G (S := fun _ => True) (fun j => [].contains j) (by kernel_rfl) trivial ?_
  refine' Reg.wpG_take (i := 0) (oi := { dst := some 27, op := Op.load 25 (Operand.tmp 2), type := 25, pos := "law.go:37", after := #[], guard := none }) (v := _) [2, 5, 6, 7, 8, 9, 10, 11, 12, 13, 14, 15, 16, 17] [] rfl rfl (by kernel_rfl) (by kernel_rfl) (by kernel_rfl) (by kernel_rfl) (by kernel_rfl) (by kernel_rfl) (by kernel_rfl) (fun _ _ _ h => h) (Or.inl ⟨by rfl, Or.inl ?hy2⟩) ?rest2
  case hy2 => (intro w' kk ss; obtain ⟨x0, x1, x2', x3⟩ := bx4 (B0.out.since (U4.out.trans (hr0.trans kk))); go_simp; first | done | with_reducible rfl)
  try simp only [Act.put, List.setIfInBounds_toArray, List.set_cons_zero, List.set_cons_succ]
  refine' Reg.wpG_take (i := 1) (oi := { dst := some 28, op := Op.move (Operand.tmp 1), type := 23, pos := "law.go:37", after := #[], guard := none }) (v := _) [2, 5, 6, 7, 8, 9, 10, 11, 12, 13, 14, 15, 16, 17] [] rfl rfl (by kernel_rfl) (by kernel_rfl) (by kernel_rfl) (by kernel_rfl) (by kernel_rfl) (by kernel_rfl) (by kernel_rfl) (fun _ _ _ h => h) (Or.inl ⟨by rfl, Or.inl ?hy3⟩) ?rest3
  case hy3 => (intro w' kk ss; obtain ⟨x0, x1, x2', x3⟩ := bx4 (B0.out.since (U4.out.trans (hr0.trans kk))); go_simp; first | done | with_reducible rfl)
  try simp only [Act.put, List.setIfInBounds_toArray, List.set_cons_zero, List.set_cons_succ]
  refine Reg.wpG_take (i := 2) (oi := { dst := some 29, op := Op.call { callee := Callee.value (Operand.func 29), args := #[Operand.tmp 27, Operand.tmp 28], argTypes := #[25, 23] }, type := 4, pos := "law.go:37", after := #[{ on := 0, ground := Ground.data }, { on := 1, ground := Ground.data }], guard := none }) (v := .bool R) [5, 6, 7, 8, 9, 10, 11, 12, 13, 14, 15, 16, 17] [] rfl rfl (by kernel_rfl) (by kernel_rfl) (by kernel_rfl) (by kernel_rfl) (by kernel_rfl) (by kernel_rfl) (by kernel_rfl) (fun _ _ _ h => h) (Or.inl ⟨by rfl, Or.inr ⟨29, #[.agg #[.int .i64 k0k, .slice X0 n0 xc0, .slice Y0 m0 yc0, .int .i64 e0], .slice a1 z1.length cap1], fun w' kk ss => ⟨?_, ?_⟩⟩⟩) ?_
  · (try dsimp only at ss); go_simp
  · exact HA.out w' (T4.out.trans (hr0.trans kk))
  try simp only [Act.put, List.setIfInBounds_toArray, List.set_cons_zero, List.set_cons_succ]
  refine' Reg.wpG_take (i := 3) (oi := { dst := some 30, op := Op.load 25 (Operand.tmp 2), type := 25, pos := "law.go:37", after := #[], guard := none }) (v := _) [5, 6, 7, 8, 9, 10, 11, 12, 13, 14, 15, 16, 17] [] rfl rfl (by kernel_rfl) (by kernel_rfl) (by kernel_rfl) (by kernel_rfl) (by kernel_rfl) (by kernel_rfl) (by kernel_rfl) (fun _ _ _ h => h) (Or.inl ⟨by rfl, Or.inl ?hy4⟩) ?rest4
  case hy4 => (intro w' kk ss; obtain ⟨x0, x1, x2', x3⟩ := bx4 (B0.out.since (U4.out.trans (hr0.trans kk))); go_simp; first | done | with_reducible rfl)
  try simp only [Act.put, List.setIfInBounds_toArray, List.set_cons_zero, List.set_cons_succ]
  refine' Reg.wpG_take (i := 4) (oi := { dst := some 31, op := Op.move (Operand.tmp 1), type := 23, pos := "law.go:37", after := #[], guard := none }) (v := _) [5, 6, 7, 8, 9, 10, 11, 12, 13, 14, 15, 16, 17] [] rfl rfl (by kernel_rfl) (by kernel_rfl) (by kernel_rfl) (by kernel_rfl) (by kernel_rfl) (by kernel_rfl) (by kernel_rfl) (fun _ _ _ h => h) (Or.inl ⟨by rfl, Or.inl ?hy5⟩) ?rest5
  case hy5 => (intro w' kk ss; obtain ⟨x0, x1, x2', x3⟩ := bx4 (B0.out.since (U4.out.trans (hr0.trans kk))); go_simp; first | done | with_reducible rfl)
  try simp only [Act.put, List.setIfInBounds_toArray, List.set_cons_zero, List.set_cons_succ]
  refine Reg.wpG_take (i := 5) (oi := { dst := some 32, op := Op.call { callee := Callee.value (Operand.func 30), args := #[Operand.tmp 30, Operand.tmp 31], argTypes := #[25, 23] }, type := 4, pos := "law.go:37", after := #[{ on := 3, ground := Ground.data }, { on := 4, ground := Ground.data }, { on := 2, ground := Ground.chain }], guard := none }) (v := .bool R) [6, 7, 8, 9, 10, 11, 12, 13, 14, 15, 16, 17] [] rfl rfl (by kernel_rfl) (by kernel_rfl) (by kernel_rfl) (by kernel_rfl) (by kernel_rfl) (by kernel_rfl) (by kernel_rfl) (fun _ _ _ h => h) (Or.inl ⟨by rfl, Or.inr ⟨30, #[.agg #[.int .i64 k0k, .slice X0 n0 xc0, .slice Y0 m0 yc0, .int .i64 e0], .slice a1 z1.length cap1], fun w' kk ss => ⟨?_, ?_⟩⟩⟩) ?_
  · (try dsimp only at ss); go_simp
  · exact HB.out w' (T4.out.trans (hr0.trans kk))
  try simp only [Act.put, List.setIfInBounds_toArray, List.set_cons_zero, List.set_cons_succ]
  refine' Reg.wpG_take (i := 6) (oi := { dst := some 33, op := Op.binOp BinOp.eql 4 (Operand.tmp 29) (Operand.tmp 32) 4, type := 4, pos := "law.go:37", after := #[{ on := 2, ground := Ground.data }, { on := 5, ground := Ground.data }], guard := none }) (v := _) [7, 8, 9, 10, 11, 12, 13, 14, 15, 16, 17] [] rfl rfl (by kernel_rfl) (by kernel_rfl) (by kernel_rfl) (by kernel_rfl) (by kernel_rfl) (by kernel_rfl) (by kernel_rfl) (fun _ _ _ h => h) (Or.inl ⟨by rfl, Or.inl ?hy6⟩) ?rest6
  case hy6 => (intro w' kk ss; obtain ⟨x0, x1, x2', x3⟩ := bx4 (B0.out.since (U4.out.trans (hr0.trans kk))); go_simp; first | done | with_reducible rfl)
  try simp only [Act.put, List.setIfInBounds_toArray, List.set_cons_zero, List.set_cons_succ]
  refine' Reg.wpG_take (i := 7) (oi := { dst := some 34, op := Op.move (Operand.tmp 33), type := 4, pos := "law.go:37", after := #[{ on := 6, ground := Ground.data }, { on := 5, ground := Ground.chain }], guard := none }) (v := _) [8, 9, 10, 11, 12, 13, 14, 15, 16, 17] [] rfl rfl (by kernel_rfl) (by kernel_rfl) (by kernel_rfl) (by kernel_rfl) (by kernel_rfl) (by kernel_rfl) (by kernel_rfl) (fun _ _ _ h => h) (Or.inl ⟨by rfl, Or.inl ?hy7⟩) ?rest7
  case hy7 => (intro w' kk ss; obtain ⟨x0, x1, x2', x3⟩ := bx4 (B0.out.since (U4.out.trans (hr0.trans kk))); go_simp; first | done | with_reducible rfl)
  try simp only [Act.put, List.setIfInBounds_toArray, List.set_cons_zero, List.set_cons_succ]
  refine' Reg.wpG_take (i := 8) (oi := { dst := some 35, op := Op.move (Operand.tmp 5), type := 2, pos := "law.go:37", after := #[{ on := 7, ground := Ground.guard }], guard := some (7, true) }) (v := _) [10, 11, 12, 13, 14, 15, 16, 17] [] rfl rfl (by kernel_rfl) (by kernel_rfl) (by kernel_rfl) (by kernel_rfl) (by kernel_rfl) (by kernel_rfl) (by kernel_rfl) (fun _ _ _ h => h) (Or.inl ⟨by rfl, Or.inl ?hy8⟩) ?rest8
  case hy8 => (intro w' kk ss; obtain ⟨x0, x1, x2', x3⟩ := bx4 (B0.out.since (U4.out.trans (hr0.trans kk))); go_simp; first | done | with_reducible rfl)
  try simp only [Act.put, List.setIfInBounds_toArray, List.set_cons_zero, List.set_cons_succ]
  refine' Reg.wpG_take (i := 9) (oi := { dst := some 36, op := Op.move (Operand.tmp 7), type := 2, pos := "law.go:37", after := #[{ on := 7, ground := Ground.guard }], guard := some (7, true) }) (v := _) [10, 11, 12, 13, 14, 15, 16, 17] [] rfl rfl (by kernel_rfl) (by kernel_rfl) (by kernel_rfl) (by kernel_rfl) (by kernel_rfl) (by kernel_rfl) (by kernel_rfl) (fun _ _ _ h => h) (Or.inl ⟨by rfl, Or.inl ?hy9⟩) ?rest9
  case hy9 => (intro w' kk ss; obtain ⟨x0, x1, x2', x3⟩ := bx4 (B0.out.since (U4.out.trans (hr0.trans kk))); go_simp; first | done | with_reducible rfl)
  try simp only [Act.put, List.setIfInBounds_toArray, List.set_cons_zero, List.set_cons_succ]
  refine' Reg.wpG_take (i := 10) (oi := { dst := some 37, op := Op.binOp BinOp.eql 2 (Operand.tmp 35) (Operand.tmp 36) 2, type := 4, pos := "law.go:37", after := #[{ on := 8, ground := Ground.data }, { on := 9, ground := Ground.data }, { on := 7, ground := Ground.guard }], guard := some (7, true) }) (v := _) [11, 12, 13, 14, 15, 16, 17] [] rfl rfl (by kernel_rfl) (by kernel_rfl) (by kernel_rfl) (by kernel_rfl) (by kernel_rfl) (by kernel_rfl) (by kernel_rfl) (fun _ _ _ h => h) (Or.inl ⟨by rfl, Or.inl ?hy10⟩) ?rest10
  case hy10 => (intro w' kk ss; obtain ⟨x0, x1, x2', x3⟩ := bx4 (B0.out.since (U4.out.trans (hr0.trans kk))); go_simp; first | done | with_reducible rfl)
  try simp only [Act.put, List.setIfInBounds_toArray, List.set_cons_zero, List.set_cons_succ]
  refine' Reg.wpG_take (i := 11) (oi := { dst := some 38, op := Op.pick (Operand.tmp 34) (Operand.tmp 37) (Operand.const (Value.bool false)), type := 4, pos := "law.go:37", after := #[{ on := 7, ground := Ground.data }, { on := 10, ground := Ground.data }], guard := none }) (v := _) [12, 13, 14, 15, 16, 17] [] rfl rfl (by kernel_rfl) (by kernel_rfl) (by kernel_rfl) (by kernel_rfl) (by kernel_rfl) (by kernel_rfl) (by kernel_rfl) (fun _ _ _ h => h) (Or.inl ⟨by rfl, Or.inl ?hy11⟩) ?rest11
  case hy11 => (intro w' kk ss; obtain ⟨x0, x1, x2', x3⟩ := bx4 (B0.out.since (U4.out.trans (hr0.trans kk))); go_simp; first | done | with_reducible rfl)
  try simp only [Act.put, List.setIfInBounds_toArray, List.set_cons_zero, List.set_cons_succ]
  refine' Reg.wpG_take (i := 12) (oi := { dst := some 39, op := Op.move (Operand.tmp 38), type := 4, pos := "law.go:37", after := #[{ on := 11, ground := Ground.data }, { on := 7, ground := Ground.chain }], guard := none }) (v := _) [13, 14, 15, 16, 17] [] rfl rfl (by kernel_rfl) (by kernel_rfl) (by kernel_rfl) (by kernel_rfl) (by kernel_rfl) (by kernel_rfl) (by kernel_rfl) (fun _ _ _ h => h) (Or.inl ⟨by rfl, Or.inl ?hy12⟩) ?rest12
  case hy12 => (intro w' kk ss; obtain ⟨x0, x1, x2', x3⟩ := bx4 (B0.out.since (U4.out.trans (hr0.trans kk))); go_simp; first | done | with_reducible rfl)
  try simp only [Act.put, List.setIfInBounds_toArray, List.set_cons_zero, List.set_cons_succ]
  refine' Reg.wpG_take (i := 13) (oi := { dst := some 40, op := Op.move (Operand.tmp 6), type := 4, pos := "law.go:37", after := #[{ on := 12, ground := Ground.guard }], guard := some (12, true) }) (v := _) [15, 16, 17] [] rfl rfl (by kernel_rfl) (by kernel_rfl) (by kernel_rfl) (by kernel_rfl) (by kernel_rfl) (by kernel_rfl) (by kernel_rfl) (fun _ _ _ h => h) (Or.inl ⟨by rfl, Or.inl ?hy13⟩) ?rest13
  case hy13 => (intro w' kk ss; obtain ⟨x0, x1, x2', x3⟩ := bx4 (B0.out.since (U4.out.trans (hr0.trans kk))); go_simp; first | done | with_reducible rfl)
  try simp only [Act.put, List.setIfInBounds_toArray, List.set_cons_zero, List.set_cons_succ]
  refine' Reg.wpG_take (i := 14) (oi := { dst := some 41, op := Op.move (Operand.tmp 8), type := 4, pos := "law.go:37", after := #[{ on := 12, ground := Ground.guard }], guard := some (12, true) }) (v := _) [15, 16, 17] [] rfl rfl (by kernel_rfl) (by kernel_rfl) (by kernel_rfl) (by kernel_rfl) (by kernel_rfl) (by kernel_rfl) (by kernel_rfl) (fun _ _ _ h => h) (Or.inl ⟨by rfl, Or.inl ?hy14⟩) ?rest14
  case hy14 => (intro w' kk ss; obtain ⟨x0, x1, x2', x3⟩ := bx4 (B0.out.since (U4.out.trans (hr0.trans kk))); go_simp; first | done | with_reducible rfl)
  try simp only [Act.put, List.setIfInBounds_toArray, List.set_cons_zero, List.set_cons_succ]
  refine' Reg.wpG_take (i := 15) (oi := { dst := some 42, op := Op.binOp BinOp.eql 4 (Operand.tmp 40) (Operand.tmp 41) 4, type := 4, pos := "law.go:37", after := #[{ on := 13, ground := Ground.data }, { on := 14, ground := Ground.data }, { on := 12, ground := Ground.guard }], guard := some (12, true) }) (v := _) [16, 17] [] rfl rfl (by kernel_rfl) (by kernel_rfl) (by kernel_rfl) (by kernel_rfl) (by kernel_rfl) (by kernel_rfl) (by kernel_rfl) (fun _ _ _ h => h) (Or.inl ⟨by rfl, Or.inl ?hy15⟩) ?rest15
  case hy15 => (intro w' kk ss; obtain ⟨x0, x1, x2', x3⟩ := bx4 (B0.out.since (U4.out.trans (hr0.trans kk))); go_simp; first | done | with_reducible rfl)
  try simp only [Act.put, List.setIfInBounds_toArray, List.set_cons_zero, List.set_cons_succ]
  refine' Reg.wpG_take (i := 16) (oi := { dst := some 43, op := Op.pick (Operand.tmp 39) (Operand.tmp 42) (Operand.const (Value.bool false)), type := 4, pos := "law.go:37", after := #[{ on := 12, ground := Ground.data }, { on := 15, ground := Ground.data }], guard := none }) (v := _) [17] [] rfl rfl (by kernel_rfl) (by kernel_rfl) (by kernel_rfl) (by kernel_rfl) (by kernel_rfl) (by kernel_rfl) (by kernel_rfl) (fun _ _ _ h => h) (Or.inl ⟨by rfl, Or.inl ?hy16⟩) ?rest16
  case hy16 => (intro w' kk ss; obtain ⟨x0, x1, x2', x3⟩ := bx4 (B0.out.since (U4.out.trans (hr0.trans kk))); go_simp; first | done | with_reducible rfl)
  try simp only [Act.put, List.setIfInBounds_toArray, List.set_cons_zero, List.set_cons_succ]
  refine' Reg.wpG_take (i := 17) (oi := { dst := some 4, op := Op.assign (Operand.tmp 43), type := 4, pos := "law.go:37", after := #[{ on := 16, ground := Ground.data }, { on := 12, ground := Ground.chain }, { on := 0, ground := Ground.phase }, { on := 1, ground := Ground.phase }, { on := 2, ground := Ground.phase }, { on := 3, ground := Ground.phase }, { on := 4, ground := Ground.phase }, { on := 5, ground := Ground.phase }, { on := 6, ground := Ground.phase }, { on := 7, ground := Ground.phase }, { on := 8, ground := Ground.phase }, { on := 9, ground := Ground.phase }, { on := 10, ground := Ground.phase }, { on := 11, ground := Ground.phase }, { on := 12, ground := Ground.phase }, { on := 13, ground := Ground.phase }, { on := 14, ground := Ground.phase }, { on := 15, ground := Ground.phase }, { on := 16, ground := Ground.phase }], guard := none }) (v := _) [] [] rfl rfl (by kernel_rfl) (by kernel_rfl) (by kernel_rfl) (by kernel_rfl) (by kernel_rfl) (by kernel_rfl) (by kernel_rfl) (fun _ _ _ h => h) (Or.inl ⟨by rfl, Or.inl ?hy17⟩) ?rest17
  case hy17 => (intro w' kk ss; obtain ⟨x0, x1, x2', x3⟩ := bx4 (B0.out.since (U4.out.trans (hr0.trans kk))); go_simp; first | done | with_reducible rfl)
  try simp only [Act.put, List.setIfInBounds_toArray, List.set_cons_zero, List.set_cons_succ]
  refine Reg.wpG_done (by kernel_rfl) (fun we ke se => ?_) _
  refine NoPanic.normal ?_
  have hr0 := hr0.trans ke
  clear ke
  go_wp2
  go_ret
  exact ⟨by simp, T4.out.trans hr0⟩

set_option maxRecDepth 100000 in
theorem lifted (os : Os) (started : os.Started) (H : Type) (enc : TypeId × Value → H) :
    ReturnsInHanded {} Try.checked os 9 .any (Rows.senseHoldsSpec.pre6 enc Try.prog Try.f9 Rows.senseHoldsRow.domain false) (Rows.senseHoldsSpec.post enc Try.prog Try.f9 false true false false) := by
  refine returnsInHanded_of_change (C := Try.checked) own started (by kernel_rfl) Try.func9
    (ChangeSpec.witness6 (enc := enc) (C := Try.checked) false ⟨#[], #[.agg #[.int .i64 0, .slice none 0 0, .slice none 0 0, .int .i64 0], .slice none 0 0], []⟩ 8 (by kernel_rfl) (by kernel_rfl) (by kernel_rfl) (by kernel_rfl)) ?_
  intro W base args ds gs before hval0 hW hcnd _
  have hval : ∀ (j : Nat) t v, Try.f9.params[j]? = some t → args[j]? = some v → Value.okWide Try.prog W .any base t v := hval0
  have hW' := hW
  obtain ⟨p, q, hA0, hV, rfl, hfz, hnd⟩ := hW
  have hA : DataW.TrodAll enc Try.prog W 0 (fun _ => true) true Try.f9.params.toList args.toList ds p := hA0
  rw [Try.params9] at hA hval
  obtain ⟨v0, vs0, d0, ds0, p0, q0, hargs, rfl, rfl, h0, r0⟩ := trodAll_cons hA
  obtain ⟨v1, vs1, d1, ds1, p1, q1, rfl, rfl, rfl, h1, r1⟩ := trodAll_cons r0
  obtain ⟨rfl, rfl, rfl⟩ := trodAll_nil r1
  obtain rfl : args = #[v0, v1] := by cases args; simp_all
  obtain ⟨rfl, rfl⟩ := trodVars_none hV
  obtain ⟨k0k, X0, n0, xc0, Y0, m0, yc0, e0, rfl, z0, w0⟩ := Go.Proofs.Ytakfabaocgbbmaa.Sn.con_in ⟨Try.underlying25, ⟨rfl, rfl, rfl, rfl⟩, ⟨by kernel_rfl, by kernel_rfl, by kernel_rfl, by kernel_rfl⟩, Try.underlying3, Try.underlying22, Try.underlying23, Try.underlying2, Try.underlying3, by kernel_rfl, Try.underlying2, by kernel_rfl⟩ (by kernel_rfl) (hval 0 25 v0 rfl rfl) h0
  have k0 := h0
  have lt0 : ∀ x ∈ p0, x.block < W.heap.size := by obtain ⟨m, hm⟩ := k0; exact DataW.trod_lt m _ _ _ hm
  obtain ⟨a1, len1, cap1, rfl⟩ := okWide_slice Try.underlying23 (hval 1 23 v1 rfl rfl)
  have k1 := h1
  have lt1 : ∀ x ∈ p1, x.block < W.heap.size := by obtain ⟨m, hm⟩ := k1; exact DataW.trod_lt m _ _ _ hm
  obtain ⟨z1, w1⟩ : ∃ zs, Go.Proofs.Ytakfabaocgbbmaa.Sn.IntsIn W a1 len1 cap1 zs := by
    obtain ⟨fuel, hf⟩ := h1
    exact Go.Proofs.Ytakfabaocgbbmaa.Sn.ints_in Try.underlying23 Try.underlying2 (by kernel_rfl) hf
  clear hA0 hval0
  refine (walk k0k X0 n0 xc0 Y0 m0 yc0 e0 z0 a1 len1 cap1 z1 W w0 w1).mono fun e W' ⟨he, bel⟩ => ?_
  subst he
  exact ⟨_, rfl, _, _, _, [], _, [], hW', trodAll_mk1 (shut_bool Try.underlying4 _), (trodAll_cons_mk (Below.trod laidOut (by kernel_rfl) (of_decide_eq_true (by kernel_rfl)) k0 bel lt0) (trodAll_cons_mk (Below.trod laidOut (by kernel_rfl) (of_decide_eq_true (by kernel_rfl)) k1 bel lt1) trodAll_mk0)), rfl, bel.frame _, fun h => by cases h⟩

theorem over : Rows.senseHoldsRow.holds Try.pinned (OpenSpec.ofChange Rows.senseHoldsSpec) :=
  OpenClaim.holds_of_wide 9 Try.f9 rfl rfl rfl rfl rfl rfl rfl ⟨rfl, rfl, rfl, rfl, rfl⟩ rfl rfl rfl rfl rfl (by kernel_rfl) Try.func9 (by kernel_rfl)
    (of_decide_eq_true (by kernel_rfl)) (by unfold Func.isWrapper; first | (rw [if_pos (by decide +kernel)]; kernel_rfl) | (rw [if_neg (by decide +kernel)]; exact ⟨rfl, rfl⟩))
    (fun os started H enc _ => lifted os started H enc)

/-- THE STATEMENT -/
theorem proved : Rows.SenseHoldsSaid := over
#print axioms proved
end Go.Proofs.Ytakfabaocgbbmaa.senseHolds
