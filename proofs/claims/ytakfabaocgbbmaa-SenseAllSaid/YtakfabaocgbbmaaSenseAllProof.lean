/-
  For all models and lists of values: the law SenseAll returns true (whether any values are a solution of any model, and whether they are better than others, is told as the document says). No condition.
-/
import Derived.Test.YtakfabaocgbbmaaRows
import Derived.WalkKit
import Derived.ProofKit
import Derived.OpenShut
import Derived.ShutString
import Derived.ChangeOld
import Derived.Below
import Derived.Test.YtakfabaocgbbmaaQbw
import Derived.Test.YtakfabaocgbbmaaKzb
namespace Go.Proofs.Ytakfabaocgbbmaa.senseAll
open Go.ChangeShapes Go.WideShapes Go.ChangeAt Go.RowKit
open Go.ChangeMaps (open_string shut_string)
open Go.Proofs.Ytakfabaocgbbmaa.Dig Go.Proofs.Ytakfabaocgbbmaa.Zs Go.Proofs.Ytakfabaocgbbmaa.Tr Go.Proofs.Ytakfabaocgbbmaa.Sn
open Go.Proofs.Ytakfabaocgbbmaa.Ti (Sl QR stR)
set_option linter.unusedVariables false

theorem own : ownKnob Try.prog.godebug = none := by kernel_rfl
theorem laidOut : laidOutB Try.prog = true := by kernel_rfl

/-- WHAT THE WALK IS TOLD OF A SLICE OF INTEGERS THAT CAME IN: it is nil; or it leads to a row of 'cap' cells, the numbers 'zs' (the first 'len' are its elements, the rest its spare room), each fitting its kind. -/
def IsRow (k : IntKind) (w : World) (a : Option Addr) (len cap : Nat) (zs : List Int) : Prop :=
  (a = none ∧ len = 0 ∧ cap = 0 ∧ zs = []) ∨
  ∃ x, a = some x ∧ len ≤ cap ∧ cap ≤ maxLen ∧ zs.length = cap ∧ (∀ i, i < zs.length → w.cell? (x.add i) = some (.int k (zs.getD i 0))) ∧ ∀ n ∈ zs, (Lit.int k n).wf = true

set_option maxRecDepth 100000 in
set_option maxHeartbeats 3000000 in
theorem walk (D0 : Option Addr) (n0 dc0 : Nat) (C0 : Option Addr) (m0 cc0 : Nat) (s0 g0 : Int) (z0 : Go.Proofs.Ytakfabaocgbbmaa.Sn.Md) (a1 : Option Addr) (len1 cap1 : Nat) (z1 : List Int) (a2 : Option Addr) (len2 cap2 : Nat) (z2 : List Int) (w : World) (w0 : Go.Proofs.Ytakfabaocgbbmaa.Sn.ModIn w D0 n0 dc0 C0 m0 cc0 s0 g0 z0) (w1 : Go.Proofs.Ytakfabaocgbbmaa.Sn.IntsIn w a1 len1 cap1 z1) (w2 : Go.Proofs.Ytakfabaocgbbmaa.Sn.IntsIn w a2 len2 cap2 z2) :
    Calls Try.prog 10 #[.agg #[.slice D0 n0 dc0, .slice C0 m0 cc0, .int .i64 s0, .int .i64 g0], .slice a1 len1 cap1, .slice a2 len2 cap2] w fun e w' => e = .returned (.bool true) ∧ Since w w' := by
  obtain ⟨hM, hd, hdl, hc, hcl, -, -⟩ := w0
  obtain ⟨la, hA, hBA, hlA⟩ := w1
  obtain ⟨lb, hB, hBB, hlB⟩ := w2
  subst la lb
  have AL := Lib.hid alive_any
  have SM := Lib.hid (fun W (k : Since w W) => small_any _ z0 W (hM.since k) (mlen hdl) (mlen hcl) (fun d h => mlen (hd d h).2) (fun c h => ⟨mlen (hc c h).2.1, mlen (hc c h).2.2⟩))
  obtain ⟨s, hs⟩ : ∃ s, smallM z0 = s := ⟨_, rfl⟩
  rw [hs] at SM
  have S0 := Lib.hid (sA w (.cells #[.slice D0 n0 dc0, .slice C0 m0 cc0, .int .i64 s0, .int .i64 g0] 52))
  have B0 := Lib.hid (Bx.fresh w #[.slice D0 n0 dc0, .slice C0 m0 cc0, .int .i64 s0, .int .i64 g0] 52)
  obtain ⟨b0, b1, b2, b3⟩ := bx4 B0.out
  cases s with
  | false =>
    clear hM hd hdl hc hcl hA hBA hlA hB hBB hlB hs
    go_enter Try.func10, Try.ntmps10
    go_wp2_with (first | (go_at_call 25; (with_reducible refine (AL.out _).mono ?_); rintro e w1 ⟨rfl, k1⟩; have U1 := Lib.hid k1; have T1 := Lib.hid (S0.out.trans k1); obtain ⟨b0, b1, b2, b3⟩ := bx4 (B0.out.since k1); clear k1) | (go_at_call 31; (with_reducible refine (SM.out _ T1.out).mono ?_); rintro e w2 ⟨rfl, k2⟩; have U2 := Lib.hid (U1.out.trans k2); have T2 := Lib.hid (T1.out.trans k2); obtain ⟨b0, b1, b2, b3⟩ := bx4 (B0.out.since U2.out); clear k2))
    go_ret
    exact ⟨rfl, T2.out⟩
  | true =>
  have hsz : SzM z0 := smallM_sz hs
  have hbd : BdM z0 := fun d h => (hd d h).1
  by_cases c1 : z1.length ≤ 200
  case neg =>
    clear hM hd hdl hc hcl hA hBA hB hBB hs hsz hbd
    go_enter Try.func10, Try.ntmps10
    go_wp2_with (first | (go_at_call 25; (with_reducible refine (AL.out _).mono ?_); rintro e w1 ⟨rfl, k1⟩; have U1 := Lib.hid k1; have T1 := Lib.hid (S0.out.trans k1); obtain ⟨b0, b1, b2, b3⟩ := bx4 (B0.out.since k1); clear k1) | (go_at_call 31; (with_reducible refine (SM.out _ T1.out).mono ?_); rintro e w2 ⟨rfl, k2⟩; have U2 := Lib.hid (U1.out.trans k2); have T2 := Lib.hid (T1.out.trans k2); obtain ⟨b0, b1, b2, b3⟩ := bx4 (B0.out.since U2.out); clear k2))
    go_ret
    exact ⟨rfl, T2.out⟩
  by_cases c2 : z2.length ≤ 200
  case neg =>
    clear hM hd hdl hc hcl hA hBA hB hBB hs hsz hbd
    go_enter Try.func10, Try.ntmps10
    go_wp2_with (first | (go_at_call 25; (with_reducible refine (AL.out _).mono ?_); rintro e w1 ⟨rfl, k1⟩; have U1 := Lib.hid k1; have T1 := Lib.hid (S0.out.trans k1); obtain ⟨b0, b1, b2, b3⟩ := bx4 (B0.out.since k1); clear k1) | (go_at_call 31; (with_reducible refine (SM.out _ T1.out).mono ?_); rintro e w2 ⟨rfl, k2⟩; have U2 := Lib.hid (U1.out.trans k2); have T2 := Lib.hid (T1.out.trans k2); obtain ⟨b0, b1, b2, b3⟩ := bx4 (B0.out.since U2.out); clear k2))
    go_ret
    exact ⟨rfl, T2.out⟩
  obtain ⟨R, hR⟩ : ∃ R, allOf z0 z1 = R := ⟨_, rfl⟩
  obtain ⟨Q, hQ⟩ : ∃ Q, betterOf z0 z1 z2 = Q := ⟨_, rfl⟩
  have HA := Lib.hid (fun W (k : Since w W) => show Calls Try.prog 32 #[.agg #[.slice D0 n0 dc0, .slice C0 m0 cc0, .int .i64 s0, .int .i64 g0], .slice a1 z1.length cap1] W (fun e w' => e = .returned (.bool R) ∧ Since W w' ∧ True) from (sall_any _ _ z0 z1 W (hM.since k) (hA.since stI k) hsz hbd hBA (by omega)).mono fun e w' h => by unfold Go.Proofs.Ytakfabaocgbbmaa.Zs.RetT at h; rw [hR] at h; exact ⟨h.1, h.2, trivial⟩)
  have HB := Lib.hid (fun W (k : Since w W) => show Calls Try.prog 33 #[.agg #[.slice D0 n0 dc0, .slice C0 m0 cc0, .int .i64 s0, .int .i64 g0], .slice a1 z1.length cap1] W (fun e w' => e = .returned (.bool R) ∧ Since W w' ∧ True) from (rall_any _ _ z0 z1 W (hM.since k) (hA.since stI k) hsz hbd hBA (by omega)).mono fun e w' h => by unfold Go.Proofs.Ytakfabaocgbbmaa.Zs.RetT at h; rw [hR] at h; exact ⟨h.1, h.2, trivial⟩)
  have HC := Lib.hid (fun W (k : Since w W) => show Calls Try.prog 34 #[.agg #[.slice D0 n0 dc0, .slice C0 m0 cc0, .int .i64 s0, .int .i64 g0], .slice a1 z1.length cap1, .slice a2 z2.length cap2] W (fun e w' => e = .returned (.bool Q) ∧ Since W w' ∧ True) from (sbetter_any _ _ _ z0 z1 z2 W (hM.since k) (hA.since stI k) (hB.since stI k) hsz (by omega) (by omega)).mono fun e w' h => by unfold Go.Proofs.Ytakfabaocgbbmaa.Zs.RetT at h; rw [hQ] at h; exact ⟨h.1, h.2, trivial⟩)
  have HD := Lib.hid (fun W (k : Since w W) => show Calls Try.prog 35 #[.agg #[.slice D0 n0 dc0, .slice C0 m0 cc0, .int .i64 s0, .int .i64 g0], .slice a1 z1.length cap1, .slice a2 z2.length cap2] W (fun e w' => e = .returned (.bool Q) ∧ Since W w' ∧ True) from (rbetter_any _ _ _ z0 z1 z2 W (hM.since k) (hA.since stI k) (hB.since stI k) hsz hbd (by omega) (by omega)).mono fun e w' h => by unfold Go.Proofs.Ytakfabaocgbbmaa.Zs.RetT at h; rw [hQ] at h; exact ⟨h.1, h.2, trivial⟩)
  clear hM hd hdl hc hcl hA hBA hlA hB hBB hlB hs hsz hbd hR hQ
  go_enter Try.func10, Try.ntmps10
  go_wp2_with (first | (go_at_call 25; (with_reducible refine (AL.out _).mono ?_); rintro e w1 ⟨rfl, k1⟩; have U1 := Lib.hid k1; have T1 := Lib.hid (S0.out.trans k1); obtain ⟨b0, b1, b2, b3⟩ := bx4 (B0.out.since k1); clear k1) | (go_at_call 31; (with_reducible refine (SM.out _ T1.out).mono ?_); rintro e w2 ⟨rfl, k2⟩; have U2 := Lib.hid (U1.out.trans k2); have T2 := Lib.hid (T1.out.trans k2); obtain ⟨b0, b1, b2, b3⟩ := bx4 (B0.out.since U2.out); clear k2))
  have hr0 : Since w2 w2.drew := Since.drew (Since.refl w2)
  refine wp_region_noPanic ?_
  refine Reg.wp_region_G (S := fun _ => True) (fun j => [].contains j) (by kernel_rfl) trivial ?_
  refine' Reg.wpG_take (i := 0) (oi := { dst := some 22, op := Op.load 52 (Operand.tmp 3), type := 52, pos := "law.go:48", after := #[], guard := none }) (v := _) [2, 5, 6, 7, 8, 9, 10, 11, 12, 13, 14, 15, 16, 17, 18] [] rfl rfl (by kernel_rfl) (by kernel_rfl) (by kernel_rfl) (by kernel_rfl) (by kernel_rfl) (by kernel_rfl) (by kernel_rfl) (fun _ _ _ h => h) (Or.inl ⟨by rfl, Or.inl ?hy2⟩) ?rest2
  case hy2 => (intro w' kk ss; obtain ⟨x0, x1, x2', x3⟩ := bx4 (B0.out.since (U2.out.trans (hr0.trans kk))); go_simp; first | done | with_reducible rfl)
  try simp only [Act.put, List.setIfInBounds_toArray, List.set_cons_zero, List.set_cons_succ]
  refine' Reg.wpG_take (i := 1) (oi := { dst := some 23, op := Op.move (Operand.tmp 1), type := 23, pos := "law.go:48", after := #[], guard := none }) (v := _) [2, 5, 6, 7, 8, 9, 10, 11, 12, 13, 14, 15, 16, 17, 18] [] rfl rfl (by kernel_rfl) (by kernel_rfl) (by kernel_rfl) (by kernel_rfl) (by kernel_rfl) (by kernel_rfl) (by kernel_rfl) (fun _ _ _ h => h) (Or.inl ⟨by rfl, Or.inl ?hy3⟩) ?rest3
  case hy3 => (intro w' kk ss; obtain ⟨x0, x1, x2', x3⟩ := bx4 (B0.out.since (U2.out.trans (hr0.trans kk))); go_simp; first | done | with_reducible rfl)
  try simp only [Act.put, List.setIfInBounds_toArray, List.set_cons_zero, List.set_cons_succ]
  refine Reg.wpG_take (i := 2) (oi := { dst := some 24, op := Op.call { callee := Callee.value (Operand.func 32), args := #[Operand.tmp 22, Operand.tmp 23], argTypes := #[52, 23] }, type := 4, pos := "law.go:48", after := #[{ on := 0, ground := Ground.data }, { on := 1, ground := Ground.data }], guard := none }) (v := .bool R) [5, 6, 7, 8, 9, 10, 11, 12, 13, 14, 15, 16, 17, 18] [] rfl rfl (by kernel_rfl) (by kernel_rfl) (by kernel_rfl) (by kernel_rfl) (by kernel_rfl) (by kernel_rfl) (by kernel_rfl) (fun _ _ _ h => h) (Or.inl ⟨by rfl, Or.inr ⟨32, #[.agg #[.slice D0 n0 dc0, .slice C0 m0 cc0, .int .i64 s0, .int .i64 g0], .slice a1 z1.length cap1], fun w' kk ss => ⟨?_, ?_⟩⟩⟩) ?_
  · (try dsimp only at ss); go_simp
  · exact HA.out w' (T2.out.trans (hr0.trans kk))
  try simp only [Act.put, List.setIfInBounds_toArray, List.set_cons_zero, List.set_cons_succ]
  refine' Reg.wpG_take (i := 3) (oi := { dst := some 25, op := Op.load 52 (Operand.tmp 3), type := 52, pos := "law.go:48", after := #[], guard := none }) (v := _) [5, 6, 7, 8, 9, 10, 11, 12, 13, 14, 15, 16, 17, 18] [] rfl rfl (by kernel_rfl) (by kernel_rfl) (by kernel_rfl) (by kernel_rfl) (by kernel_rfl) (by kernel_rfl) (by kernel_rfl) (fun _ _ _ h => h) (Or.inl ⟨by rfl, Or.inl ?hy4⟩) ?rest4
  case hy4 => (intro w' kk ss; obtain ⟨x0, x1, x2', x3⟩ := bx4 (B0.out.since (U2.out.trans (hr0.trans kk))); go_simp; first | done | with_reducible rfl)
  try simp only [Act.put, List.setIfInBounds_toArray, List.set_cons_zero, List.set_cons_succ]
  refine' Reg.wpG_take (i := 4) (oi := { dst := some 26, op := Op.move (Operand.tmp 1), type := 23, pos := "law.go:48", after := #[], guard := none }) (v := _) [5, 6, 7, 8, 9, 10, 11, 12, 13, 14, 15, 16, 17, 18] [] rfl rfl (by kernel_rfl) (by kernel_rfl) (by kernel_rfl) (by kernel_rfl) (by kernel_rfl) (by kernel_rfl) (by kernel_rfl) (fun _ _ _ h => h) (Or.inl ⟨by rfl, Or.inl ?hy5⟩) ?rest5
  case hy5 => (intro w' kk ss; obtain ⟨x0, x1, x2', x3⟩ := bx4 (B0.out.since (U2.out.trans (hr0.trans kk))); go_simp; first | done | with_reducible rfl)
  try simp only [Act.put, List.setIfInBounds_toArray, List.set_cons_zero, List.set_cons_succ]
  refine Reg.wpG_take (i := 5) (oi := { dst := some 27, op := Op.call { callee := Callee.value (Operand.func 33), args := #[Operand.tmp 25, Operand.tmp 26], argTypes := #[52, 23] }, type := 4, pos := "law.go:48", after := #[{ on := 3, ground := Ground.data }, { on := 4, ground := Ground.data }, { on := 2, ground := Ground.chain }], guard := none }) (v := .bool R) [6, 7, 8, 9, 10, 11, 12, 13, 14, 15, 16, 17, 18] [] rfl rfl (by kernel_rfl) (by kernel_rfl) (by kernel_rfl) (by kernel_rfl) (by kernel_rfl) (by kernel_rfl) (by kernel_rfl) (fun _ _ _ h => h) (Or.inl ⟨by rfl, Or.inr ⟨33, #[.agg #[.slice D0 n0 dc0, .slice C0 m0 cc0, .int .i64 s0, .int .i64 g0], .slice a1 z1.length cap1], fun w' kk ss => ⟨?_, ?_⟩⟩⟩) ?_
  · (try dsimp only at ss); go_simp
  · exact HB.out w' (T2.out.trans (hr0.trans kk))
  try simp only [Act.put, List.setIfInBounds_toArray, List.set_cons_zero, List.set_cons_succ]
  refine' Reg.wpG_take (i := 6) (oi := { dst := some 28, op := Op.binOp BinOp.eql 4 (Operand.tmp 24) (Operand.tmp 27) 4, type := 4, pos := "law.go:48", after := #[{ on := 2, ground := Ground.data }, { on := 5, ground := Ground.data }], guard := none }) (v := _) [7, 8, 9, 10, 11, 12, 13, 14, 15, 16, 17, 18] [] rfl rfl (by kernel_rfl) (by kernel_rfl) (by kernel_rfl) (by kernel_rfl) (by kernel_rfl) (by kernel_rfl) (by kernel_rfl) (fun _ _ _ h => h) (Or.inl ⟨by rfl, Or.inl ?hy6⟩) ?rest6
  case hy6 => (intro w' kk ss; obtain ⟨x0, x1, x2', x3⟩ := bx4 (B0.out.since (U2.out.trans (hr0.trans kk))); go_simp; first | done | with_reducible rfl)
  try simp only [Act.put, List.setIfInBounds_toArray, List.set_cons_zero, List.set_cons_succ]
  refine' Reg.wpG_take (i := 7) (oi := { dst := some 29, op := Op.move (Operand.tmp 28), type := 4, pos := "law.go:48", after := #[{ on := 6, ground := Ground.data }, { on := 5, ground := Ground.chain }], guard := none }) (v := _) [8, 9, 10, 11, 12, 13, 14, 15, 16, 17, 18] [] rfl rfl (by kernel_rfl) (by kernel_rfl) (by kernel_rfl) (by kernel_rfl) (by kernel_rfl) (by kernel_rfl) (by kernel_rfl) (fun _ _ _ h => h) (Or.inl ⟨by rfl, Or.inl ?hy7⟩) ?rest7
  case hy7 => (intro w' kk ss; obtain ⟨x0, x1, x2', x3⟩ := bx4 (B0.out.since (U2.out.trans (hr0.trans kk))); go_simp; first | done | with_reducible rfl)
  try simp only [Act.put, List.setIfInBounds_toArray, List.set_cons_zero, List.set_cons_succ]
  refine' Reg.wpG_take (i := 8) (oi := { dst := some 30, op := Op.load 52 (Operand.tmp 3), type := 52, pos := "law.go:48", after := #[{ on := 7, ground := Ground.guard }], guard := some (7, true) }) (v := _) [11, 15, 16, 17, 18] [] rfl rfl (by kernel_rfl) (by kernel_rfl) (by kernel_rfl) (by kernel_rfl) (by kernel_rfl) (by kernel_rfl) (by kernel_rfl) (fun _ _ _ h => h) (Or.inl ⟨by rfl, Or.inl ?hy8⟩) ?rest8
  case hy8 => (intro w' kk ss; obtain ⟨x0, x1, x2', x3⟩ := bx4 (B0.out.since (U2.out.trans (hr0.trans kk))); go_simp; first | done | with_reducible rfl)
  try simp only [Act.put, List.setIfInBounds_toArray, List.set_cons_zero, List.set_cons_succ]
  refine' Reg.wpG_take (i := 9) (oi := { dst := some 31, op := Op.move (Operand.tmp 1), type := 23, pos := "law.go:48", after := #[{ on := 7, ground := Ground.guard }], guard := some (7, true) }) (v := _) [11, 15, 16, 17, 18] [] rfl rfl (by kernel_rfl) (by kernel_rfl) (by kernel_rfl) (by kernel_rfl) (by kernel_rfl) (by kernel_rfl) (by kernel_rfl) (fun _ _ _ h => h) (Or.inl ⟨by rfl, Or.inl ?hy9⟩) ?rest9
  case hy9 => (intro w' kk ss; obtain ⟨x0, x1, x2', x3⟩ := bx4 (B0.out.since (U2.out.trans (hr0.trans kk))); go_simp; first | done | with_reducible rfl)
  try simp only [Act.put, List.setIfInBounds_toArray, List.set_cons_zero, List.set_cons_succ]
  refine' Reg.wpG_take (i := 10) (oi := { dst := some 32, op := Op.move (Operand.tmp 2), type := 23, pos := "law.go:48", after := #[{ on := 7, ground := Ground.guard }], guard := some (7, true) }) (v := _) [11, 15, 16, 17, 18] [] rfl rfl (by kernel_rfl) (by kernel_rfl) (by kernel_rfl) (by kernel_rfl) (by kernel_rfl) (by kernel_rfl) (by kernel_rfl) (fun _ _ _ h => h) (Or.inl ⟨by rfl, Or.inl ?hy10⟩) ?rest10
  case hy10 => (intro w' kk ss; obtain ⟨x0, x1, x2', x3⟩ := bx4 (B0.out.since (U2.out.trans (hr0.trans kk))); go_simp; first | done | with_reducible rfl)
  try simp only [Act.put, List.setIfInBounds_toArray, List.set_cons_zero, List.set_cons_succ]
  refine Reg.wpG_take (i := 11) (oi := { dst := some 33, op := Op.call { callee := Callee.value (Operand.func 34), args := #[Operand.tmp 30, Operand.tmp 31, Operand.tmp 32], argTypes := #[52, 23, 23] }, type := 4, pos := "law.go:48", after := #[{ on := 8, ground := Ground.data }, { on := 9, ground := Ground.data }, { on := 10, ground := Ground.data }, { on := 7, ground := Ground.chain }, { on := 7, ground := Ground.guard }], guard := some (7, true) }) (v := .bool Q) [15, 16, 17, 18] [] rfl rfl (by kernel_rfl) (by kernel_rfl) (by kernel_rfl) (by kernel_rfl) (by kernel_rfl) (by kernel_rfl) (by kernel_rfl) (fun _ _ _ h => h) (Or.inl ⟨by rfl, Or.inr ⟨34, #[.agg #[.slice D0 n0 dc0, .slice C0 m0 cc0, .int .i64 s0, .int .i64 g0], .slice a1 z1.length cap1, .slice a2 z2.length cap2], fun w' kk ss => ⟨?_, ?_⟩⟩⟩) ?_
  · (try dsimp only at ss); go_simp
  · exact HC.out w' (T2.out.trans (hr0.trans kk))
  try simp only [Act.put, List.setIfInBounds_toArray, List.set_cons_zero, List.set_cons_succ]
  refine' Reg.wpG_take (i := 12) (oi := { dst := some 34, op := Op.load 52 (Operand.tmp 3), type := 52, pos := "law.go:48", after := #[{ on := 7, ground := Ground.guard }], guard := some (7, true) }) (v := _) [15, 16, 17, 18] [] rfl rfl (by kernel_rfl) (by kernel_rfl) (by kernel_rfl) (by kernel_rfl) (by kernel_rfl) (by kernel_rfl) (by kernel_rfl) (fun _ _ _ h => h) (Or.inl ⟨by rfl, Or.inl ?hy11⟩) ?rest11
  case hy11 => (intro w' kk ss; obtain ⟨x0, x1, x2', x3⟩ := bx4 (B0.out.since (U2.out.trans (hr0.trans kk))); go_simp; first | done | with_reducible rfl)
  try simp only [Act.put, List.setIfInBounds_toArray, List.set_cons_zero, List.set_cons_succ]
  refine' Reg.wpG_take (i := 13) (oi := { dst := some 35, op := Op.move (Operand.tmp 1), type := 23, pos := "law.go:48", after := #[{ on := 7, ground := Ground.guard }], guard := some (7, true) }) (v := _) [15, 16, 17, 18] [] rfl rfl (by kernel_rfl) (by kernel_rfl) (by kernel_rfl) (by kernel_rfl) (by kernel_rfl) (by kernel_rfl) (by kernel_rfl) (fun _ _ _ h => h) (Or.inl ⟨by rfl, Or.inl ?hy12⟩) ?rest12
  case hy12 => (intro w' kk ss; obtain ⟨x0, x1, x2', x3⟩ := bx4 (B0.out.since (U2.out.trans (hr0.trans kk))); go_simp; first | done | with_reducible rfl)
  try simp only [Act.put, List.setIfInBounds_toArray, List.set_cons_zero, List.set_cons_succ]
  refine' Reg.wpG_take (i := 14) (oi := { dst := some 36, op := Op.move (Operand.tmp 2), type := 23, pos := "law.go:48", after := #[{ on := 7, ground := Ground.guard }], guard := some (7, true) }) (v := _) [15, 16, 17, 18] [] rfl rfl (by kernel_rfl) (by kernel_rfl) (by kernel_rfl) (by kernel_rfl) (by kernel_rfl) (by kernel_rfl) (by kernel_rfl) (fun _ _ _ h => h) (Or.inl ⟨by rfl, Or.inl ?hy13⟩) ?rest13
  case hy13 => (intro w' kk ss; obtain ⟨x0, x1, x2', x3⟩ := bx4 (B0.out.since (U2.out.trans (hr0.trans kk))); go_simp; first | done | with_reducible rfl)
  try simp only [Act.put, List.setIfInBounds_toArray, List.set_cons_zero, List.set_cons_succ]
  refine Reg.wpG_take (i := 15) (oi := { dst := some 37, op := Op.call { callee := Callee.value (Operand.func 35), args := #[Operand.tmp 34, Operand.tmp 35, Operand.tmp 36], argTypes := #[52, 23, 23] }, type := 4, pos := "law.go:48", after := #[{ on := 12, ground := Ground.data }, { on := 13, ground := Ground.data }, { on := 14, ground := Ground.data }, { on := 11, ground := Ground.chain }, { on := 7, ground := Ground.guard }], guard := some (7, true) }) (v := .bool Q) [16, 17, 18] [] rfl rfl (by kernel_rfl) (by kernel_rfl) (by kernel_rfl) (by kernel_rfl) (by kernel_rfl) (by kernel_rfl) (by kernel_rfl) (fun _ _ _ h => h) (Or.inl ⟨by rfl, Or.inr ⟨35, #[.agg #[.slice D0 n0 dc0, .slice C0 m0 cc0, .int .i64 s0, .int .i64 g0], .slice a1 z1.length cap1, .slice a2 z2.length cap2], fun w' kk ss => ⟨?_, ?_⟩⟩⟩) ?_
  · (try dsimp only at ss); go_simp
  · exact HD.out w' (T2.out.trans (hr0.trans kk))
  try simp only [Act.put, List.setIfInBounds_toArray, List.set_cons_zero, List.set_cons_succ]
  refine' Reg.wpG_take (i := 16) (oi := { dst := some 38, op := Op.binOp BinOp.eql 4 (Operand.tmp 33) (Operand.tmp 37) 4, type := 4, pos := "law.go:48", after := #[{ on := 11, ground := Ground.data }, { on := 15, ground := Ground.data }, { on := 7, ground := Ground.guard }], guard := some (7, true) }) (v := _) [17, 18] [] rfl rfl (by kernel_rfl) (by kernel_rfl) (by kernel_rfl) (by kernel_rfl) (by kernel_rfl) (by kernel_rfl) (by kernel_rfl) (fun _ _ _ h => h) (Or.inl ⟨by rfl, Or.inl ?hy14⟩) ?rest14
  case hy14 => (intro w' kk ss; obtain ⟨x0, x1, x2', x3⟩ := bx4 (B0.out.since (U2.out.trans (hr0.trans kk))); go_simp; first | done | with_reducible rfl)
  try simp only [Act.put, List.setIfInBounds_toArray, List.set_cons_zero, List.set_cons_succ]
  refine' Reg.wpG_take (i := 17) (oi := { dst := some 39, op := Op.pick (Operand.tmp 29) (Operand.tmp 38) (Operand.const (Value.bool false)), type := 4, pos := "law.go:48", after := #[{ on := 7, ground := Ground.data }, { on := 16, ground := Ground.data }], guard := none }) (v := _) [18] [] rfl rfl (by kernel_rfl) (by kernel_rfl) (by kernel_rfl) (by kernel_rfl) (by kernel_rfl) (by kernel_rfl) (by kernel_rfl) (fun _ _ _ h => h) (Or.inl ⟨by rfl, Or.inl ?hy15⟩) ?rest15
  case hy15 => (intro w' kk ss; obtain ⟨x0, x1, x2', x3⟩ := bx4 (B0.out.since (U2.out.trans (hr0.trans kk))); go_simp; first | done | with_reducible rfl)
  try simp only [Act.put, List.setIfInBounds_toArray, List.set_cons_zero, List.set_cons_succ]
  refine' Reg.wpG_take (i := 18) (oi := { dst := some 6, op := Op.assign (Operand.tmp 39), type := 4, pos := "law.go:48", after := #[{ on := 17, ground := Ground.data }, { on := 15, ground := Ground.chain }, { on := 0, ground := Ground.phase }, { on := 1, ground := Ground.phase }, { on := 2, ground := Ground.phase }, { on := 3, ground := Ground.phase }, { on := 4, ground := Ground.phase }, { on := 5, ground := Ground.phase }, { on := 6, ground := Ground.phase }, { on := 7, ground := Ground.phase }, { on := 8, ground := Ground.phase }, { on := 9, ground := Ground.phase }, { on := 10, ground := Ground.phase }, { on := 11, ground := Ground.phase }, { on := 12, ground := Ground.phase }, { on := 13, ground := Ground.phase }, { on := 14, ground := Ground.phase }, { on := 15, ground := Ground.phase }, { on := 16, ground := Ground.phase }, { on := 17, ground := Ground.phase }], guard := none }) (v := _) [] [] rfl rfl (by kernel_rfl) (by kernel_rfl) (by kernel_rfl) (by kernel_rfl) (by kernel_rfl) (by kernel_rfl) (by kernel_rfl) (fun _ _ _ h => h) (Or.inl ⟨by rfl, Or.inl ?hy16⟩) ?rest16
  case hy16 => (intro w' kk ss; obtain ⟨x0, x1, x2', x3⟩ := bx4 (B0.out.since (U2.out.trans (hr0.trans kk))); go_simp; first | done | with_reducible rfl)
  try simp only [Act.put, List.setIfInBounds_toArray, List.set_cons_zero, List.set_cons_succ]
  refine Reg.wpG_done (by kernel_rfl) (fun we ke se => ?_) _
  refine NoPanic.normal ?_
  have hr0 := hr0.trans ke
  clear ke
  go_wp2
  go_ret
  exact ⟨by simp, T2.out.trans hr0⟩

set_option maxRecDepth 100000 in
theorem lifted (os : Os) (started : os.Started) (H : Type) (enc : TypeId × Value → H) :
    ReturnsInHanded {} Try.checked os 10 .any (Rows.senseAllSpec.pre6 enc Try.prog Try.f10 Rows.senseAllRow.domain false) (Rows.senseAllSpec.post enc Try.prog Try.f10 false true false false) := by
  refine returnsInHanded_of_change (C := Try.checked) own started (by kernel_rfl) Try.func10
    (ChangeSpec.witness6 (enc := enc) (C := Try.checked) false ⟨#[], #[.agg #[.slice none 0 0, .slice none 0 0, .int .i64 0, .int .i64 0], .slice none 0 0, .slice none 0 0], []⟩ 8 (by kernel_rfl) (by kernel_rfl) (by kernel_rfl) (by kernel_rfl)) ?_
  intro W base args ds gs before hval0 hW hcnd _
  have hval : ∀ (j : Nat) t v, Try.f10.params[j]? = some t → args[j]? = some v → Value.okWide Try.prog W .any base t v := hval0
  have hW' := hW
  obtain ⟨p, q, hA0, hV, rfl, hfz, hnd⟩ := hW
  have hA : DataW.TrodAll enc Try.prog W 0 (fun _ => true) true Try.f10.params.toList args.toList ds p := hA0
  rw [Try.params10] at hA hval
  obtain ⟨v0, vs0, d0, ds0, p0, q0, hargs, rfl, rfl, h0, r0⟩ := trodAll_cons hA
  obtain ⟨v1, vs1, d1, ds1, p1, q1, rfl, rfl, rfl, h1, r1⟩ := trodAll_cons r0
  obtain ⟨v2, vs2, d2, ds2, p2, q2, rfl, rfl, rfl, h2, r2⟩ := trodAll_cons r1
  obtain ⟨rfl, rfl, rfl⟩ := trodAll_nil r2
  obtain rfl : args = #[v0, v1, v2] := by cases args; simp_all
  obtain ⟨rfl, rfl⟩ := trodVars_none hV
  obtain ⟨D0, n0, dc0, C0, m0, cc0, s0, g0, rfl, z0, w0⟩ := Go.Proofs.Ytakfabaocgbbmaa.Sn.mod_in ⟨Try.underlying52, ⟨rfl, rfl, rfl, rfl⟩, ⟨by kernel_rfl, by kernel_rfl, by kernel_rfl, by kernel_rfl⟩, Try.underlying26, by kernel_rfl, Try.underlying46, Try.underlying36, by kernel_rfl, ⟨rfl, rfl⟩, ⟨by kernel_rfl, by kernel_rfl⟩, ⟨Try.underlying2, Try.underlying2⟩, Try.underlying45, by kernel_rfl, Try.underlying3, Try.underlying3⟩ ⟨Try.underlying25, ⟨rfl, rfl, rfl, rfl⟩, ⟨by kernel_rfl, by kernel_rfl, by kernel_rfl, by kernel_rfl⟩, Try.underlying3, Try.underlying22, Try.underlying23, Try.underlying2, Try.underlying3, by kernel_rfl, Try.underlying2, by kernel_rfl⟩ (by kernel_rfl) (hval 0 52 v0 rfl rfl) h0
  have k0 := h0
  have lt0 : ∀ x ∈ p0, x.block < W.heap.size := by obtain ⟨m, hm⟩ := k0; exact DataW.trod_lt m _ _ _ hm
  obtain ⟨a1, len1, cap1, rfl⟩ := okWide_slice Try.underlying23 (hval 1 23 v1 rfl rfl)
  have k1 := h1
  have lt1 : ∀ x ∈ p1, x.block < W.heap.size := by obtain ⟨m, hm⟩ := k1; exact DataW.trod_lt m _ _ _ hm
  obtain ⟨z1, w1⟩ : ∃ zs, Go.Proofs.Ytakfabaocgbbmaa.Sn.IntsIn W a1 len1 cap1 zs := by
    obtain ⟨fuel, hf⟩ := h1
    exact Go.Proofs.Ytakfabaocgbbmaa.Sn.ints_in Try.underlying23 Try.underlying2 (by kernel_rfl) hf
  obtain ⟨a2, len2, cap2, rfl⟩ := okWide_slice Try.underlying23 (hval 2 23 v2 rfl rfl)
  have k2 := h2
  have lt2 : ∀ x ∈ p2, x.block < W.heap.size := by obtain ⟨m, hm⟩ := k2; exact DataW.trod_lt m _ _ _ hm
  obtain ⟨z2, w2⟩ : ∃ zs, Go.Proofs.Ytakfabaocgbbmaa.Sn.IntsIn W a2 len2 cap2 zs := by
    obtain ⟨fuel, hf⟩ := h2
    exact Go.Proofs.Ytakfabaocgbbmaa.Sn.ints_in Try.underlying23 Try.underlying2 (by kernel_rfl) hf
  clear hA0 hval0
  refine (walk D0 n0 dc0 C0 m0 cc0 s0 g0 z0 a1 len1 cap1 z1 a2 len2 cap2 z2 W w0 w1 w2).mono fun e W' ⟨he, bel⟩ => ?_
  subst he
  exact ⟨_, rfl, _, _, _, [], _, [], hW', trodAll_mk1 (shut_bool Try.underlying4 _), (trodAll_cons_mk (Below.trod laidOut (by kernel_rfl) (of_decide_eq_true (by kernel_rfl)) k0 bel lt0) (trodAll_cons_mk (Below.trod laidOut (by kernel_rfl) (of_decide_eq_true (by kernel_rfl)) k1 bel lt1) (trodAll_cons_mk (Below.trod laidOut (by kernel_rfl) (of_decide_eq_true (by kernel_rfl)) k2 bel lt2) trodAll_mk0))), rfl, bel.frame _, fun h => by cases h⟩

theorem over : Rows.senseAllRow.holds Try.pinned (OpenSpec.ofChange Rows.senseAllSpec) :=
  OpenClaim.holds_of_wide 10 Try.f10 rfl rfl rfl rfl rfl rfl rfl ⟨rfl, rfl, rfl, rfl, rfl⟩ rfl rfl rfl rfl rfl (by kernel_rfl) Try.func10 (by kernel_rfl)
    (of_decide_eq_true (by kernel_rfl)) (by unfold Func.isWrapper; first | (rw [if_pos (by decide +kernel)]; kernel_rfl) | (rw [if_neg (by decide +kernel)]; exact ⟨rfl, rfl⟩))
    (fun os started H enc _ => lifted os started H enc)

/-- THE STATEMENT -/
theorem proved : Rows.SenseAllSaid := over
#print axioms proved
end Go.Proofs.Ytakfabaocgbbmaa.senseAll
