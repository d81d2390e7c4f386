/-
  For all models and lists of values: the law SenseOrder returns true (nothing is better than itself, of two things at most one is better, and what is better than a better one is better). No condition.
-/
import Derived.Test.YtfcinefmnigacaaRows
import Derived.WalkKit
import Derived.ProofKit
import Derived.OpenShut
import Derived.ShutString
import Derived.Test.YtfcinefmnigacaaUz
namespace Go.Proofs.Ytfcinefmnigacaa.senseOrder
open Go.ChangeShapes Go.WideShapes Go.ChangeAt Go.RowKit
open Go.ChangeMaps (open_string shut_string)
open Go.Proofs.Ytfcinefmnigacaa.Dig Go.Proofs.Ytfcinefmnigacaa.Zs Go.Proofs.Ytfcinefmnigacaa.Tr Go.Proofs.Ytfcinefmnigacaa.Sn
open Go.Proofs.Ytfcinefmnigacaa.Ti (Sl QR stR)
set_option linter.unusedVariables false

theorem laidOut : laidOutB Try.prog = true := by kernel_rfl
theorem own : ownKnob Try.prog.godebug = none := by kernel_rfl

set_option maxRecDepth 100000 in
set_option maxHeartbeats 8000000 in
theorem walk (D0 : Option Addr) (n0 dc0 : Nat) (C0 : Option Addr) (m0 cc0 : Nat) (s0 g0 : Int) (z0 : Go.Proofs.Ytfcinefmnigacaa.Sn.Md) (A1 : Option Addr) (n1 b1 : Nat) (B1 : Option Addr) (m1 c1 : Nat) (C1 : Option Addr) (k1k d1 : Nat) (x1 y1 z1 : List Int) (w : World) (w1 : Go.Proofs.Ytfcinefmnigacaa.Sn.IntsIn w A1 n1 b1 x1 ∧ Go.Proofs.Ytfcinefmnigacaa.Sn.IntsIn w B1 m1 c1 y1 ∧ Go.Proofs.Ytfcinefmnigacaa.Sn.IntsIn w C1 k1k d1 z1) (w0 : Go.Proofs.Ytfcinefmnigacaa.Sn.ModIn w D0 n0 dc0 C0 m0 cc0 s0 g0 z0) :
    Calls Try.prog 9 #[.agg #[.slice D0 n0 dc0, .slice C0 m0 cc0, .int .i64 s0, .int .i64 g0], .agg #[.slice A1 n1 b1, .slice B1 m1 c1, .slice C1 k1k d1]] w fun e w' => e = .returned (.bool true) ∧ Since w w' := by
  obtain ⟨hM, hd, hdl, hc, hcl, -, -⟩ := w0
  obtain ⟨⟨la, hA, hBA, hlA⟩, ⟨lb, hB, hBB, hlB⟩, ⟨lc, hC, hBC, hlC⟩⟩ := w1
  have AL := Lib.hid alive_any
  subst la lb lc
  have SM := Lib.hid (fun W (k : Since w W) => small_any _ z0 W (hM.since k) (mlen hdl) (mlen hcl) (fun d h => mlen (hd d h).2) (fun c h => ⟨mlen (hc c h).2.1, mlen (hc c h).2.2⟩))
  obtain ⟨s, hs⟩ : ∃ s, smallM z0 = s := ⟨_, rfl⟩
  rw [hs] at SM
  obtain ⟨w0', hw0⟩ : ∃ w0', w0' = (w.alloc (.cells #[.slice D0 n0 dc0, .slice C0 m0 cc0, .int .i64 s0, .int .i64 g0] 33)).alloc (.cells #[.slice A1 x1.length b1, .slice B1 y1.length c1, .slice C1 z1.length d1] 43) := ⟨_, rfl⟩
  have S0 := Lib.hid (show Since w w0' by rw [hw0]; exact ((Since.refl w).alloc _).alloc _)
  have B0 := Lib.hid (show Bx w0' w.heap.size #[.slice D0 n0 dc0, .slice C0 m0 cc0, .int .i64 s0, .int .i64 g0] 33 by rw [hw0]; exact (Bx.fresh _ _ _).since (since_alloc _ _))
  have BL := Lib.hid (show Bx w0' (w.heap.size + 1) #[.slice A1 x1.length b1, .slice B1 y1.length c1, .slice C1 z1.length d1] 43 by rw [hw0]; exact Bx.new (Since.refl _) (by simp))
  cases s with
  | false =>
    go_enter Try.func9, Try.ntmps9
    go_wp2_with (first | (go_at_call 10; rw [← hw0]; (with_reducible refine (AL.out _).mono ?_); rintro e w1 ⟨rfl, k1⟩; have K1 := Lib.hid k1; clear k1; obtain ⟨q0, q1, q2, q3⟩ := bx4 (B0.out.since K1.out)) | (go_at_call 16; (with_reducible refine (SM.out _ (S0.out.trans K1.out)).mono ?_); rintro e w2 ⟨rfl, k2⟩; have K2 := Lib.hid (K1.out.trans k2); clear k2; obtain ⟨q0, q1, q2, q3⟩ := bx4 (B0.out.since K2.out); obtain ⟨p0, p1, p2⟩ := bx3 (BL.out.since K2.out)))
    go_ret
    exact ⟨rfl, S0.out.trans K2.out⟩
  | true =>
    have hsz := smallM_sz hs
    by_cases cx1 : x1.length ≤ 200
    case neg =>
      go_enter Try.func9, Try.ntmps9
      go_wp2_with (first | (go_at_call 10; rw [← hw0]; (with_reducible refine (AL.out _).mono ?_); rintro e w1 ⟨rfl, k1⟩; have K1 := Lib.hid k1; clear k1; obtain ⟨q0, q1, q2, q3⟩ := bx4 (B0.out.since K1.out)) | (go_at_call 16; (with_reducible refine (SM.out _ (S0.out.trans K1.out)).mono ?_); rintro e w2 ⟨rfl, k2⟩; have K2 := Lib.hid (K1.out.trans k2); clear k2; obtain ⟨q0, q1, q2, q3⟩ := bx4 (B0.out.since K2.out); obtain ⟨p0, p1, p2⟩ := bx3 (BL.out.since K2.out)))
      go_ret
      exact ⟨rfl, S0.out.trans K2.out⟩
    by_cases cy1 : y1.length ≤ 200
    case neg =>
      go_enter Try.func9, Try.ntmps9
      go_wp2_with (first | (go_at_call 10; rw [← hw0]; (with_reducible refine (AL.out _).mono ?_); rintro e w1 ⟨rfl, k1⟩; have K1 := Lib.hid k1; clear k1; obtain ⟨q0, q1, q2, q3⟩ := bx4 (B0.out.since K1.out)) | (go_at_call 16; (with_reducible refine (SM.out _ (S0.out.trans K1.out)).mono ?_); rintro e w2 ⟨rfl, k2⟩; have K2 := Lib.hid (K1.out.trans k2); clear k2; obtain ⟨q0, q1, q2, q3⟩ := bx4 (B0.out.since K2.out); obtain ⟨p0, p1, p2⟩ := bx3 (BL.out.since K2.out)))
      go_ret
      exact ⟨rfl, S0.out.trans K2.out⟩
    by_cases cz1 : z1.length ≤ 200
    case neg =>
      go_enter Try.func9, Try.ntmps9
      go_wp2_with (first | (go_at_call 10; rw [← hw0]; (with_reducible refine (AL.out _).mono ?_); rintro e w1 ⟨rfl, k1⟩; have K1 := Lib.hid k1; clear k1; obtain ⟨q0, q1, q2, q3⟩ := bx4 (B0.out.since K1.out)) | (go_at_call 16; (with_reducible refine (SM.out _ (S0.out.trans K1.out)).mono ?_); rintro e w2 ⟨rfl, k2⟩; have K2 := Lib.hid (K1.out.trans k2); clear k2; obtain ⟨q0, q1, q2, q3⟩ := bx4 (B0.out.since K2.out); obtain ⟨p0, p1, p2⟩ := bx3 (BL.out.since K2.out)))
      go_ret
      exact ⟨rfl, S0.out.trans K2.out⟩
    obtain ⟨ab, hab⟩ : ∃ r, betterOf z0 x1 y1 = r := ⟨_, rfl⟩
    obtain ⟨bc, hbc⟩ : ∃ r, betterOf z0 y1 z1 = r := ⟨_, rfl⟩
    obtain ⟨ac, hac⟩ : ∃ r, betterOf z0 x1 z1 = r := ⟨_, rfl⟩
    have P1 := Lib.hid (fun W k => better_at hM hA hB hsz (by omega) (by omega) hab W k)
    have P2 := Lib.hid (fun W k => better_at hM hB hC hsz (by omega) (by omega) hbc W k)
    have P3 := Lib.hid (fun W k => better_at hM hA hC hsz (by omega) (by omega) hac W k)
    have P4 := Lib.hid (fun W k => better_at hM hA hA hsz (by omega) (by omega) (better_self z0 x1) W k)
    have P5 := Lib.hid (fun (e : ab = true) W k => better_at hM hB hA hsz (by omega) (by omega) (better_anti (hab.trans e)) W k)
    have PT := Lib.hid (fun (e : ab = true) (e2 : bc = true) => (hac.symm.trans (better_trans (hab.trans e) (hbc.trans e2))))
    generalize x1.length = nx at *
    generalize y1.length = ny at *
    generalize z1.length = nz at *
    clear hM hA hB hC hd hc hdl hcl hBA hBB hBC hlA hlB hlC hab hbc hac hsz hs
    go_enter Try.func9, Try.ntmps9
    go_wp2_with (first | (go_at_call 10; rw [← hw0]; (with_reducible refine (AL.out _).mono ?_); rintro e w1 ⟨rfl, k1⟩; have K1 := Lib.hid k1; clear k1; obtain ⟨q0, q1, q2, q3⟩ := bx4 (B0.out.since K1.out)) | (go_at_call 16; (with_reducible refine (SM.out _ (S0.out.trans K1.out)).mono ?_); rintro e w2 ⟨rfl, k2⟩; have K2 := Lib.hid (K1.out.trans k2); clear k2; obtain ⟨q0, q1, q2, q3⟩ := bx4 (B0.out.since K2.out); obtain ⟨p0, p1, p2⟩ := bx3 (BL.out.since K2.out)))
    have hr0 : Since w2 w2.drew := Since.drew (Since.refl w2)
    refine wp_region_noPanic ?_
    refine Reg.wp_region_G (S := fun _ => True) (fun j => [].contains j) (by kernel_rfl) trivial ?_
    refine' Reg.wpG_take (i := 0) (oi := { dst := some 31, op := Op.load 33 (Operand.tmp 2), type := 33, pos := "law.go:171", after := #[], guard := none }) (v := _) [5, 11, 17, 18, 19, 20] [] rfl rfl (by kernel_rfl) (by kernel_rfl) (by kernel_rfl) (by kernel_rfl) (by kernel_rfl) (by kernel_rfl) (by kernel_rfl) (fun _ _ _ h => h) (Or.inl ⟨by rfl, Or.inl ?hy37⟩) ?rest37
    case hy37 => (intro w' kk ss; obtain ⟨q0, q1, q2, q3⟩ := bx4 (B0.out.since (K2.out.trans (hr0.trans kk))); obtain ⟨p0, p1, p2⟩ := bx3 (BL.out.since (K2.out.trans (hr0.trans kk))); go_simp; first | done | with_reducible rfl)
    try simp only [Act.put, List.setIfInBounds_toArray, List.set_cons_zero, List.set_cons_succ]
    refine' Reg.wpG_take (i := 1) (oi := { dst := some 32, op := Op.indexAddr 43 (Operand.tmp 3) (Operand.const (Value.int IntKind.i64 0)), type := 0, pos := "law.go:171", after := #[], guard := none }) (v := _) [2, 5, 11, 17, 18, 19, 20] [] rfl rfl (by kernel_rfl) (by kernel_rfl) (by kernel_rfl) (by kernel_rfl) (by kernel_rfl) (by kernel_rfl) (by kernel_rfl) (fun _ _ _ h => h) (Or.inl ⟨by rfl, Or.inl ?hy38⟩) ?rest38
    case hy38 => (intro w' kk ss; obtain ⟨q0, q1, q2, q3⟩ := bx4 (B0.out.since (K2.out.trans (hr0.trans kk))); obtain ⟨p0, p1, p2⟩ := bx3 (BL.out.since (K2.out.trans (hr0.trans kk))); go_simp; first | done | with_reducible rfl)
    try simp only [Act.put, List.setIfInBounds_toArray, List.set_cons_zero, List.set_cons_succ]
    refine' Reg.wpG_take (i := 2) (oi := { dst := some 33, op := Op.load 23 (Operand.tmp 32), type := 23, pos := "law.go:171", after := #[{ on := 1, ground := Ground.data }], guard := none }) (v := _) [5, 11, 17, 18, 19, 20] [] rfl rfl (by kernel_rfl) (by kernel_rfl) (by kernel_rfl) (by kernel_rfl) (by kernel_rfl) (by kernel_rfl) (by kernel_rfl) (fun _ _ _ h => h) (Or.inl ⟨by rfl, Or.inl ?hy39⟩) ?rest39
    case hy39 => (intro w' kk ss; obtain ⟨q0, q1, q2, q3⟩ := bx4 (B0.out.since (K2.out.trans (hr0.trans kk))); obtain ⟨p0, p1, p2⟩ := bx3 (BL.out.since (K2.out.trans (hr0.trans kk))); go_simp; first | done | with_reducible rfl)
    try simp only [Act.put, List.setIfInBounds_toArray, List.set_cons_zero, List.set_cons_succ]
    refine' Reg.wpG_take (i := 3) (oi := { dst := some 34, op := Op.indexAddr 43 (Operand.tmp 3) (Operand.const (Value.int IntKind.i64 1)), type := 0, pos := "law.go:171", after := #[], guard := none }) (v := _) [4, 5, 11, 17, 18, 19, 20] [] rfl rfl (by kernel_rfl) (by kernel_rfl) (by kernel_rfl) (by kernel_rfl) (by kernel_rfl) (by kernel_rfl) (by kernel_rfl) (fun _ _ _ h => h) (Or.inl ⟨by rfl, Or.inl ?hy40⟩) ?rest40
    case hy40 => (intro w' kk ss; obtain ⟨q0, q1, q2, q3⟩ := bx4 (B0.out.since (K2.out.trans (hr0.trans kk))); obtain ⟨p0, p1, p2⟩ := bx3 (BL.out.since (K2.out.trans (hr0.trans kk))); go_simp; first | done | with_reducible rfl)
    try simp only [Act.put, List.setIfInBounds_toArray, List.set_cons_zero, List.set_cons_succ]
    refine' Reg.wpG_take (i := 4) (oi := { dst := some 35, op := Op.load 23 (Operand.tmp 34), type := 23, pos := "law.go:171", after := #[{ on := 3, ground := Ground.data }], guard := none }) (v := _) [5, 11, 17, 18, 19, 20] [] rfl rfl (by kernel_rfl) (by kernel_rfl) (by kernel_rfl) (by kernel_rfl) (by kernel_rfl) (by kernel_rfl) (by kernel_rfl) (fun _ _ _ h => h) (Or.inl ⟨by rfl, Or.inl ?hy41⟩) ?rest41
    case hy41 => (intro w' kk ss; obtain ⟨q0, q1, q2, q3⟩ := bx4 (B0.out.since (K2.out.trans (hr0.trans kk))); obtain ⟨p0, p1, p2⟩ := bx3 (BL.out.since (K2.out.trans (hr0.trans kk))); go_simp; first | done | with_reducible rfl)
    try simp only [Act.put, List.setIfInBounds_toArray, List.set_cons_zero, List.set_cons_succ]
    refine Reg.wpG_take (i := 5) (oi := { dst := some 36, op := Op.call { callee := Callee.value (Operand.func 19), args := #[Operand.tmp 31, Operand.tmp 33, Operand.tmp 35], argTypes := #[33, 23, 23] }, type := 4, pos := "law.go:171", after := #[{ on := 0, ground := Ground.data }, { on := 2, ground := Ground.data }, { on := 4, ground := Ground.data }], guard := none }) (v := .bool ab) [11, 17, 18, 19, 20] [] rfl rfl (by kernel_rfl) (by kernel_rfl) (by kernel_rfl) (by kernel_rfl) (by kernel_rfl) (by kernel_rfl) (by kernel_rfl) (fun _ _ _ h => h) (Or.inl ⟨by rfl, Or.inr ⟨19, #[.agg #[.slice D0 n0 dc0, .slice C0 m0 cc0, .int .i64 s0, .int .i64 g0], .slice A1 nx b1, .slice B1 ny c1], fun w' kk ss => ⟨?_, ?_⟩⟩⟩) ?_
    · (try dsimp only at ss); go_simp
    · exact P1.out w' (S0.out.trans (K2.out.trans (hr0.trans kk)))
    try simp only [Act.put, List.setIfInBounds_toArray, List.set_cons_zero, List.set_cons_succ]
    refine' Reg.wpG_take (i := 6) (oi := { dst := some 37, op := Op.load 33 (Operand.tmp 2), type := 33, pos := "law.go:171", after := #[], guard := none }) (v := _) [11, 17, 18, 19, 20] [] rfl rfl (by kernel_rfl) (by kernel_rfl) (by kernel_rfl) (by kernel_rfl) (by kernel_rfl) (by kernel_rfl) (by kernel_rfl) (fun _ _ _ h => h) (Or.inl ⟨by rfl, Or.inl ?hy42⟩) ?rest42
    case hy42 => (intro w' kk ss; obtain ⟨q0, q1, q2, q3⟩ := bx4 (B0.out.since (K2.out.trans (hr0.trans kk))); obtain ⟨p0, p1, p2⟩ := bx3 (BL.out.since (K2.out.trans (hr0.trans kk))); go_simp; first | done | with_reducible rfl)
    try simp only [Act.put, List.setIfInBounds_toArray, List.set_cons_zero, List.set_cons_succ]
    refine' Reg.wpG_take (i := 7) (oi := { dst := some 38, op := Op.indexAddr 43 (Operand.tmp 3) (Operand.const (Value.int IntKind.i64 1)), type := 0, pos := "law.go:171", after := #[], guard := none }) (v := _) [8, 11, 17, 18, 19, 20] [] rfl rfl (by kernel_rfl) (by kernel_rfl) (by kernel_rfl) (by kernel_rfl) (by kernel_rfl) (by kernel_rfl) (by kernel_rfl) (fun _ _ _ h => h) (Or.inl ⟨by rfl, Or.inl ?hy43⟩) ?rest43
    case hy43 => (intro w' kk ss; obtain ⟨q0, q1, q2, q3⟩ := bx4 (B0.out.since (K2.out.trans (hr0.trans kk))); obtain ⟨p0, p1, p2⟩ := bx3 (BL.out.since (K2.out.trans (hr0.trans kk))); go_simp; first | done | with_reducible rfl)
    try simp only [Act.put, List.setIfInBounds_toArray, List.set_cons_zero, List.set_cons_succ]
    refine' Reg.wpG_take (i := 8) (oi := { dst := some 39, op := Op.load 23 (Operand.tmp 38), type := 23, pos := "law.go:171", after := #[{ on := 7, ground := Ground.data }], guard := none }) (v := _) [11, 17, 18, 19, 20] [] rfl rfl (by kernel_rfl) (by kernel_rfl) (by kernel_rfl) (by kernel_rfl) (by kernel_rfl) (by kernel_rfl) (by kernel_rfl) (fun _ _ _ h => h) (Or.inl ⟨by rfl, Or.inl ?hy44⟩) ?rest44
    case hy44 => (intro w' kk ss; obtain ⟨q0, q1, q2, q3⟩ := bx4 (B0.out.since (K2.out.trans (hr0.trans kk))); obtain ⟨p0, p1, p2⟩ := bx3 (BL.out.since (K2.out.trans (hr0.trans kk))); go_simp; first | done | with_reducible rfl)
    try simp only [Act.put, List.setIfInBounds_toArray, List.set_cons_zero, List.set_cons_succ]
    refine' Reg.wpG_take (i := 9) (oi := { dst := some 40, op := Op.indexAddr 43 (Operand.tmp 3) (Operand.const (Value.int IntKind.i64 2)), type := 0, pos := "law.go:171", after := #[], guard := none }) (v := _) [10, 11, 17, 18, 19, 20] [] rfl rfl (by kernel_rfl) (by kernel_rfl) (by kernel_rfl) (by kernel_rfl) (by kernel_rfl) (by kernel_rfl) (by kernel_rfl) (fun _ _ _ h => h) (Or.inl ⟨by rfl, Or.inl ?hy45⟩) ?rest45
    case hy45 => (intro w' kk ss; obtain ⟨q0, q1, q2, q3⟩ := bx4 (B0.out.since (K2.out.trans (hr0.trans kk))); obtain ⟨p0, p1, p2⟩ := bx3 (BL.out.since (K2.out.trans (hr0.trans kk))); go_simp; first | done | with_reducible rfl)
    try simp only [Act.put, List.setIfInBounds_toArray, List.set_cons_zero, List.set_cons_succ]
    refine' Reg.wpG_take (i := 10) (oi := { dst := some 41, op := Op.load 23 (Operand.tmp 40), type := 23, pos := "law.go:171", after := #[{ on := 9, ground := Ground.data }], guard := none }) (v := _) [11, 17, 18, 19, 20] [] rfl rfl (by kernel_rfl) (by kernel_rfl) (by kernel_rfl) (by kernel_rfl) (by kernel_rfl) (by kernel_rfl) (by kernel_rfl) (fun _ _ _ h => h) (Or.inl ⟨by rfl, Or.inl ?hy46⟩) ?rest46
    case hy46 => (intro w' kk ss; obtain ⟨q0, q1, q2, q3⟩ := bx4 (B0.out.since (K2.out.trans (hr0.trans kk))); obtain ⟨p0, p1, p2⟩ := bx3 (BL.out.since (K2.out.trans (hr0.trans kk))); go_simp; first | done | with_reducible rfl)
    try simp only [Act.put, List.setIfInBounds_toArray, List.set_cons_zero, List.set_cons_succ]
    refine Reg.wpG_take (i := 11) (oi := { dst := some 42, op := Op.call { callee := Callee.value (Operand.func 19), args := #[Operand.tmp 37, Operand.tmp 39, Operand.tmp 41], argTypes := #[33, 23, 23] }, type := 4, pos := "law.go:171", after := #[{ on := 6, ground := Ground.data }, { on := 8, ground := Ground.data }, { on := 10, ground := Ground.data }, { on := 5, ground := Ground.chain }], guard := none }) (v := .bool bc) [17, 18, 19, 20] [] rfl rfl (by kernel_rfl) (by kernel_rfl) (by kernel_rfl) (by kernel_rfl) (by kernel_rfl) (by kernel_rfl) (by kernel_rfl) (fun _ _ _ h => h) (Or.inl ⟨by rfl, Or.inr ⟨19, #[.agg #[.slice D0 n0 dc0, .slice C0 m0 cc0, .int .i64 s0, .int .i64 g0], .slice B1 ny c1, .slice C1 nz d1], fun w' kk ss => ⟨?_, ?_⟩⟩⟩) ?_
    · (try dsimp only at ss); go_simp
    · exact P2.out w' (S0.out.trans (K2.out.trans (hr0.trans kk)))
    try simp only [Act.put, List.setIfInBounds_toArray, List.set_cons_zero, List.set_cons_succ]
    refine' Reg.wpG_take (i := 12) (oi := { dst := some 43, op := Op.load 33 (Operand.tmp 2), type := 33, pos := "law.go:171", after := #[], guard := none }) (v := _) [17, 18, 19, 20] [] rfl rfl (by kernel_rfl) (by kernel_rfl) (by kernel_rfl) (by kernel_rfl) (by kernel_rfl) (by kernel_rfl) (by kernel_rfl) (fun _ _ _ h => h) (Or.inl ⟨by rfl, Or.inl ?hy47⟩) ?rest47
    case hy47 => (intro w' kk ss; obtain ⟨q0, q1, q2, q3⟩ := bx4 (B0.out.since (K2.out.trans (hr0.trans kk))); obtain ⟨p0, p1, p2⟩ := bx3 (BL.out.since (K2.out.trans (hr0.trans kk))); go_simp; first | done | with_reducible rfl)
    try simp only [Act.put, List.setIfInBounds_toArray, List.set_cons_zero, List.set_cons_succ]
    refine' Reg.wpG_take (i := 13) (oi := { dst := some 44, op := Op.indexAddr 43 (Operand.tmp 3) (Operand.const (Value.int IntKind.i64 0)), type := 0, pos := "law.go:171", after := #[], guard := none }) (v := _) [14, 17, 18, 19, 20] [] rfl rfl (by kernel_rfl) (by kernel_rfl) (by kernel_rfl) (by kernel_rfl) (by kernel_rfl) (by kernel_rfl) (by kernel_rfl) (fun _ _ _ h => h) (Or.inl ⟨by rfl, Or.inl ?hy48⟩) ?rest48
    case hy48 => (intro w' kk ss; obtain ⟨q0, q1, q2, q3⟩ := bx4 (B0.out.since (K2.out.trans (hr0.trans kk))); obtain ⟨p0, p1, p2⟩ := bx3 (BL.out.since (K2.out.trans (hr0.trans kk))); go_simp; first | done | with_reducible rfl)
    try simp only [Act.put, List.setIfInBounds_toArray, List.set_cons_zero, List.set_cons_succ]
    refine' Reg.wpG_take (i := 14) (oi := { dst := some 45, op := Op.load 23 (Operand.tmp 44), type := 23, pos := "law.go:171", after := #[{ on := 13, ground := Ground.data }], guard := none }) (v := _) [17, 18, 19, 20] [] rfl rfl (by kernel_rfl) (by kernel_rfl) (by kernel_rfl) (by kernel_rfl) (by kernel_rfl) (by kernel_rfl) (by kernel_rfl) (fun _ _ _ h => h) (Or.inl ⟨by rfl, Or.inl ?hy49⟩) ?rest49
    case hy49 => (intro w' kk ss; obtain ⟨q0, q1, q2, q3⟩ := bx4 (B0.out.since (K2.out.trans (hr0.trans kk))); obtain ⟨p0, p1, p2⟩ := bx3 (BL.out.since (K2.out.trans (hr0.trans kk))); go_simp; first | done | with_reducible rfl)
    try simp only [Act.put, List.setIfInBounds_toArray, List.set_cons_zero, List.set_cons_succ]
    refine' Reg.wpG_take (i := 15) (oi := { dst := some 46, op := Op.indexAddr 43 (Operand.tmp 3) (Operand.const (Value.int IntKind.i64 2)), type := 0, pos := "law.go:171", after := #[], guard := none }) (v := _) [16, 17, 18, 19, 20] [] rfl rfl (by kernel_rfl) (by kernel_rfl) (by kernel_rfl) (by kernel_rfl) (by kernel_rfl) (by kernel_rfl) (by kernel_rfl) (fun _ _ _ h => h) (Or.inl ⟨by rfl, Or.inl ?hy50⟩) ?rest50
    case hy50 => (intro w' kk ss; obtain ⟨q0, q1, q2, q3⟩ := bx4 (B0.out.since (K2.out.trans (hr0.trans kk))); obtain ⟨p0, p1, p2⟩ := bx3 (BL.out.since (K2.out.trans (hr0.trans kk))); go_simp; first | done | with_reducible rfl)
    try simp only [Act.put, List.setIfInBounds_toArray, List.set_cons_zero, List.set_cons_succ]
    refine' Reg.wpG_take (i := 16) (oi := { dst := some 47, op := Op.load 23 (Operand.tmp 46), type := 23, pos := "law.go:171", after := #[{ on := 15, ground := Ground.data }], guard := none }) (v := _) [17, 18, 19, 20] [] rfl rfl (by kernel_rfl) (by kernel_rfl) (by kernel_rfl) (by kernel_rfl) (by kernel_rfl) (by kernel_rfl) (by kernel_rfl) (fun _ _ _ h => h) (Or.inl ⟨by rfl, Or.inl ?hy51⟩) ?rest51
    case hy51 => (intro w' kk ss; obtain ⟨q0, q1, q2, q3⟩ := bx4 (B0.out.since (K2.out.trans (hr0.trans kk))); obtain ⟨p0, p1, p2⟩ := bx3 (BL.out.since (K2.out.trans (hr0.trans kk))); go_simp; first | done | with_reducible rfl)
    try simp only [Act.put, List.setIfInBounds_toArray, List.set_cons_zero, List.set_cons_succ]
    refine Reg.wpG_take (i := 17) (oi := { dst := some 48, op := Op.call { callee := Callee.value (Operand.func 19), args := #[Operand.tmp 43, Operand.tmp 45, Operand.tmp 47], argTypes := #[33, 23, 23] }, type := 4, pos := "law.go:171", after := #[{ on := 12, ground := Ground.data }, { on := 14, ground := Ground.data }, { on := 16, ground := Ground.data }, { on := 11, ground := Ground.chain }], guard := none }) (v := .bool ac) [18, 19, 20] [] rfl rfl (by kernel_rfl) (by kernel_rfl) (by kernel_rfl) (by kernel_rfl) (by kernel_rfl) (by kernel_rfl) (by kernel_rfl) (fun _ _ _ h => h) (Or.inl ⟨by rfl, Or.inr ⟨19, #[.agg #[.slice D0 n0 dc0, .slice C0 m0 cc0, .int .i64 s0, .int .i64 g0], .slice A1 nx b1, .slice C1 nz d1], fun w' kk ss => ⟨?_, ?_⟩⟩⟩) ?_
    · (try dsimp only at ss); go_simp
    · exact P3.out w' (S0.out.trans (K2.out.trans (hr0.trans kk)))
    try simp only [Act.put, List.setIfInBounds_toArray, List.set_cons_zero, List.set_cons_succ]
    refine' Reg.wpG_take (i := 18) (oi := { dst := some 5, op := Op.assign (Operand.tmp 36), type := 4, pos := "law.go:171", after := #[{ on := 5, ground := Ground.data }, { on := 17, ground := Ground.chain }, { on := 0, ground := Ground.phase }, { on := 1, ground := Ground.phase }, { on := 2, ground := Ground.phase }, { on := 3, ground := Ground.phase }, { on := 4, ground := Ground.phase }, { on := 5, ground := Ground.phase }, { on := 6, ground := Ground.textOnly Departure.lateStores }, { on := 7, ground := Ground.textOnly Departure.lateStores }, { on := 8, ground := Ground.textOnly Departure.lateStores }, { on := 9, ground := Ground.textOnly Departure.lateStores }, { on := 10, ground := Ground.textOnly Departure.lateStores }, { on := 11, ground := Ground.textOnly Departure.lateStoresUnsure }, { on := 12, ground := Ground.textOnly Departure.lateStores }, { on := 13, ground := Ground.textOnly Departure.lateStores }, { on := 14, ground := Ground.textOnly Departure.lateStores }, { on := 15, ground := Ground.textOnly Departure.lateStores }, { on := 16, ground := Ground.textOnly Departure.lateStores }, { on := 17, ground := Ground.textOnly Departure.lateStoresUnsure }], guard := none }) (v := _) [19, 20] [] rfl rfl (by kernel_rfl) (by kernel_rfl) (by kernel_rfl) (by kernel_rfl) (by kernel_rfl) (by kernel_rfl) (by kernel_rfl) (fun _ _ _ h => h) (Or.inl ⟨by rfl, Or.inl ?hy52⟩) ?rest52
    case hy52 => (intro w' kk ss; obtain ⟨q0, q1, q2, q3⟩ := bx4 (B0.out.since (K2.out.trans (hr0.trans kk))); obtain ⟨p0, p1, p2⟩ := bx3 (BL.out.since (K2.out.trans (hr0.trans kk))); go_simp; first | done | with_reducible rfl)
    try simp only [Act.put, List.setIfInBounds_toArray, List.set_cons_zero, List.set_cons_succ]
    refine' Reg.wpG_take (i := 19) (oi := { dst := some 6, op := Op.assign (Operand.tmp 42), type := 4, pos := "law.go:171", after := #[{ on := 11, ground := Ground.data }, { on := 18, ground := Ground.chain }, { on := 0, ground := Ground.phase }, { on := 1, ground := Ground.phase }, { on := 2, ground := Ground.phase }, { on := 3, ground := Ground.phase }, { on := 4, ground := Ground.phase }, { on := 5, ground := Ground.phase }, { on := 6, ground := Ground.phase }, { on := 7, ground := Ground.phase }, { on := 8, ground := Ground.phase }, { on := 9, ground := Ground.phase }, { on := 10, ground := Ground.phase }, { on := 11, ground := Ground.phase }, { on := 12, ground := Ground.textOnly Departure.lateStores }, { on := 13, ground := Ground.textOnly Departure.lateStores }, { on := 14, ground := Ground.textOnly Departure.lateStores }, { on := 15, ground := Ground.textOnly Departure.lateStores }, { on := 16, ground := Ground.textOnly Departure.lateStores }, { on := 17, ground := Ground.textOnly Departure.lateStoresUnsure }, { on := 18, ground := Ground.phase }], guard := none }) (v := _) [20] [] rfl rfl (by kernel_rfl) (by kernel_rfl) (by kernel_rfl) (by kernel_rfl) (by kernel_rfl) (by kernel_rfl) (by kernel_rfl) (fun _ _ _ h => h) (Or.inl ⟨by rfl, Or.inl ?hy53⟩) ?rest53
    case hy53 => (intro w' kk ss; obtain ⟨q0, q1, q2, q3⟩ := bx4 (B0.out.since (K2.out.trans (hr0.trans kk))); obtain ⟨p0, p1, p2⟩ := bx3 (BL.out.since (K2.out.trans (hr0.trans kk))); go_simp; first | done | with_reducible rfl)
    try simp only [Act.put, List.setIfInBounds_toArray, List.set_cons_zero, List.set_cons_succ]
    refine' Reg.wpG_take (i := 20) (oi := { dst := some 7, op := Op.assign (Operand.tmp 48), type := 4, pos := "law.go:171", after := #[{ on := 17, ground := Ground.data }, { on := 19, ground := Ground.chain }, { on := 0, ground := Ground.phase }, { on := 1, ground := Ground.phase }, { on := 2, ground := Ground.phase }, { on := 3, ground := Ground.phase }, { on := 4, ground := Ground.phase }, { on := 5, ground := Ground.phase }, { on := 6, ground := Ground.phase }, { on := 7, ground := Ground.phase }, { on := 8, ground := Ground.phase }, { on := 9, ground := Ground.phase }, { on := 10, ground := Ground.phase }, { on := 11, ground := Ground.phase }, { on := 12, ground := Ground.phase }, { on := 13, ground := Ground.phase }, { on := 14, ground := Ground.phase }, { on := 15, ground := Ground.phase }, { on := 16, ground := Ground.phase }, { on := 17, ground := Ground.phase }, { on := 18, ground := Ground.phase }, { on := 19, ground := Ground.phase }], guard := none }) (v := _) [] [] rfl rfl (by kernel_rfl) (by kernel_rfl) (by kernel_rfl) (by kernel_rfl) (by kernel_rfl) (by kernel_rfl) (by kernel_rfl) (fun _ _ _ h => h) (Or.inl ⟨by rfl, Or.inl ?hy54⟩) ?rest54
    case hy54 => (intro w' kk ss; obtain ⟨q0, q1, q2, q3⟩ := bx4 (B0.out.since (K2.out.trans (hr0.trans kk))); obtain ⟨p0, p1, p2⟩ := bx3 (BL.out.since (K2.out.trans (hr0.trans kk))); go_simp; first | done | with_reducible rfl)
    try simp only [Act.put, List.setIfInBounds_toArray, List.set_cons_zero, List.set_cons_succ]
    refine Reg.wpG_done (by kernel_rfl) (fun we ke se => ?_) _
    refine NoPanic.normal ?_
    have hr0 := hr0.trans ke
    clear ke
    have K5 := Lib.hid (K2.out.trans hr0)
    clear hr0
    obtain ⟨q0, q1, q2, q3⟩ := bx4 (B0.out.since K5.out)
    obtain ⟨p0, p1, p2⟩ := bx3 (BL.out.since K5.out)
    cases ab with
    | false =>
      go_wp2_with (go_at_call 19; (with_reducible refine (P4.out _ (S0.out.trans K5.out)).mono ?_); rintro e w6 ⟨rfl, k6, -⟩; have K6 := Lib.hid (K5.out.trans k6); clear k6; obtain ⟨q0, q1, q2, q3⟩ := bx4 (B0.out.since K6.out); obtain ⟨p0, p1, p2⟩ := bx3 (BL.out.since K6.out))
      go_ret
      exact ⟨rfl, S0.out.trans K6.out⟩
    | true =>
      have P6 := Lib.hid (P5.out rfl)
      clear P5
      cases bc with
      | false =>
        go_wp2_with (first | (go_at_call 19; (with_reducible refine (P4.out _ (S0.out.trans K5.out)).mono ?_); rintro e w6 ⟨rfl, k6, -⟩; have K6 := Lib.hid (K5.out.trans k6); clear k6; obtain ⟨q0, q1, q2, q3⟩ := bx4 (B0.out.since K6.out); obtain ⟨p0, p1, p2⟩ := bx3 (BL.out.since K6.out)) | (go_at_call 19; (with_reducible refine (P6.out _ (S0.out.trans K6.out)).mono ?_); rintro e w7 ⟨rfl, k7, -⟩; have K7 := Lib.hid (K6.out.trans k7); clear k7))
        go_ret
        exact ⟨rfl, S0.out.trans K7.out⟩
      | true =>
        obtain rfl : ac = true := (PT.out rfl rfl)
        go_wp2_with (first | (go_at_call 19; (with_reducible refine (P4.out _ (S0.out.trans K5.out)).mono ?_); rintro e w6 ⟨rfl, k6, -⟩; have K6 := Lib.hid (K5.out.trans k6); clear k6; obtain ⟨q0, q1, q2, q3⟩ := bx4 (B0.out.since K6.out); obtain ⟨p0, p1, p2⟩ := bx3 (BL.out.since K6.out)) | (go_at_call 19; (with_reducible refine (P6.out _ (S0.out.trans K6.out)).mono ?_); rintro e w7 ⟨rfl, k7, -⟩; have K7 := Lib.hid (K6.out.trans k7); clear k7))
        go_ret
        exact ⟨rfl, S0.out.trans K7.out⟩

set_option maxRecDepth 100000 in
theorem lifted (os : Os) (started : os.Started) (H : Type) (enc : TypeId × Value → H) :
    ReturnsInHanded {} Try.checked os 9 .any (Rows.senseOrderSpec.pre6 enc Try.prog Try.f9 Rows.senseOrderRow.domain false) (Rows.senseOrderSpec.post enc Try.prog Try.f9 false true false false) := by
  refine returnsInHanded_of_change (C := Try.checked) own started (by kernel_rfl) Try.func9
    (ChangeSpec.witness6 (enc := enc) (C := Try.checked) false ⟨#[], #[.agg #[.slice none 0 0, .slice none 0 0, .int .i64 0, .int .i64 0], .agg #[.slice none 0 0, .slice none 0 0, .slice none 0 0]], []⟩ 8 (by kernel_rfl) (by kernel_rfl) (by kernel_rfl) (by kernel_rfl)) ?_
  intro W base args ds gs before hval0 hW hcnd _
  have hval : ∀ (j : Nat) t v, Try.f9.params[j]? = some t → args[j]? = some v → Value.okWide Try.prog W .any base t v := hval0
  have hW' := hW
  obtain ⟨p, q, hA0, hV, rfl, hfz, hnd⟩ := hW
  have hA : DataW.TrodAll enc Try.prog W 0 (fun _ => true) true Try.f9.params.toList args.toList ds p := hA0
  rw [Try.params9] at hA hval
  obtain ⟨v0, vs0, d0, ds0, p0, q0, hargs, rfl, rfl, h0, r0⟩ := trodAll_cons hA
  obtain ⟨v1, vs1, d1, ds1, p1, q1, rfl, rfl, rfl, h1, r1⟩ := trodAll_cons r0
  obtain ⟨rfl, rfl, rfl⟩ := trodAll_nil r1
  obtain rfl : args = #[v0, v1] := by cases args; simp_all
  obtain ⟨rfl, rfl⟩ := trodVars_none hV
  obtain ⟨D0, n0, dc0, C0, m0, cc0, s0, g0, rfl, z0, w0⟩ := Go.Proofs.Ytfcinefmnigacaa.Sn.mod_in ⟨Try.underlying33, ⟨rfl, rfl, rfl, rfl⟩, ⟨by kernel_rfl, by kernel_rfl, by kernel_rfl, by kernel_rfl⟩, Try.underlying30, by kernel_rfl, Try.underlying47, Try.underlying46, by kernel_rfl, ⟨rfl, rfl⟩, ⟨by kernel_rfl, by kernel_rfl⟩, ⟨Try.underlying2, Try.underlying2⟩, Try.underlying31, by kernel_rfl, Try.underlying3, Try.underlying3⟩ ⟨Try.underlying25, ⟨rfl, rfl, rfl, rfl⟩, ⟨by kernel_rfl, by kernel_rfl, by kernel_rfl, by kernel_rfl⟩, Try.underlying3, Try.underlying22, Try.underlying23, Try.underlying2, Try.underlying3, by kernel_rfl, Try.underlying2, by kernel_rfl⟩ (by kernel_rfl) (hval 0 33 v0 rfl rfl) h0
  have k0 := h0
  have lt0 : ∀ x ∈ p0, x.block < W.heap.size := by obtain ⟨m, hm⟩ := k0; exact DataW.trod_lt m _ _ _ hm
  obtain ⟨A1, n1, b1, B1, m1, c1, C1, k1k, d1, rfl, x1, y1, z1, w1⟩ := Go.Proofs.Ytfcinefmnigacaa.Sn.lists3_in Try.underlying43 (by kernel_rfl) (by kernel_rfl) Try.underlying23 Try.underlying2 (by kernel_rfl) (hval 1 43 v1 rfl rfl) h1
  have k1 := h1
  have lt1 : ∀ x ∈ p1, x.block < W.heap.size := by obtain ⟨m, hm⟩ := k1; exact DataW.trod_lt m _ _ _ hm
  clear hA0 hval0
  simp only [List.append_nil] at hW'
  refine (walk D0 n0 dc0 C0 m0 cc0 s0 g0 z0 A1 n1 b1 B1 m1 c1 C1 k1k d1 x1 y1 z1 W w1 w0).mono fun e W' ⟨he, bel⟩ => ?_
  subst he
  exact ⟨_, rfl, _, _, _, [], _, [], hW', (trodAll_cons_mk (shut_bool Try.underlying4 _) trodAll_mk0), (trodAll_cons_mk (Below.trod laidOut (by kernel_rfl) (of_decide_eq_true (by kernel_rfl)) k0 bel lt0) (trodAll_cons_mk (Below.trod laidOut (by kernel_rfl) (of_decide_eq_true (by kernel_rfl)) k1 bel lt1) trodAll_mk0)), rfl, Below.frame bel _, fun h => by cases h⟩

theorem over : Rows.senseOrderRow.holds Try.pinned (OpenSpec.ofChange Rows.senseOrderSpec) :=
  OpenClaim.holds_of_wide 9 Try.f9 rfl rfl rfl rfl rfl rfl rfl ⟨rfl, rfl, rfl, rfl, rfl⟩ rfl rfl rfl rfl rfl (by kernel_rfl) Try.func9 (by kernel_rfl)
    (of_decide_eq_true (by kernel_rfl)) (by unfold Func.isWrapper; first | (rw [if_pos (by decide +kernel)]; kernel_rfl) | (rw [if_neg (by decide +kernel)]; exact ⟨rfl, rfl⟩))
    (fun os started H enc _ => lifted os started H enc)

/-- THE STATEMENT -/
theorem proved : Rows.SenseOrderSaid :=
  over
#print axioms proved
end Go.Proofs.Ytfcinefmnigacaa.senseOrder
