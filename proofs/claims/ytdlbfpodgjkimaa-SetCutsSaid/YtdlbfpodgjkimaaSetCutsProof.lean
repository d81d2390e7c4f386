/-
  For all ranges a and b and all ends: the law SetCuts returns true (any part of any ranges, what two have, and whether they are one set, is told as the document says). No condition.
-/
import Derived.Test.YtdlbfpodgjkimaaRows
import Derived.WalkKit
import Derived.ProofKit
import Derived.OpenShut
import Derived.ShutString
import Derived.ChangeOld
import Derived.Below
import Derived.Test.YtdlbfpodgjkimaaEy
import Derived.Test.YtdlbfpodgjkimaaEm
import Derived.Test.YtdlbfpodgjkimaaEo
import Derived.Test.YtdlbfpodgjkimaaEn
import Derived.Test.YtdlbfpodgjkimaaEh
import Derived.Test.YtdlbfpodgjkimaaEi
import Derived.Test.YtdlbfpodgjkimaaEq
namespace Go.Proofs.Ytdlbfpodgjkimaa.setCuts
open Go.ChangeShapes Go.WideShapes Go.ChangeAt Go.RowKit
open Go.ChangeMaps (open_string shut_string)
open Go.Proofs.Ytdlbfpodgjkimaa.Dig Go.Proofs.Ytdlbfpodgjkimaa.Zs
open Go.Proofs.Ytdlbfpodgjkimaa.Ti (Sl QR stR)
set_option linter.unusedVariables false

theorem own : ownKnob Try.prog.godebug = none := by kernel_rfl
theorem laidOut : laidOutB Try.prog = true := by kernel_rfl

/-- WHAT THE WALK IS TOLD OF A SLICE OF INTEGERS THAT CAME IN: it is nil; or it leads to a row of 'cap' cells, the numbers 'zs' (the first 'len' are its elements, the rest its spare room), each fitting its kind. -/
def IsRow (k : IntKind) (w : World) (a : Option Addr) (len cap : Nat) (zs : List Int) : Prop :=
  (a = none ∧ len = 0 ∧ cap = 0 ∧ zs = []) ∨
  ∃ x, a = some x ∧ len ≤ cap ∧ cap ≤ maxLen ∧ zs.length = cap ∧ (∀ i, i < zs.length → w.cell? (x.add i) = some (.int k (zs.getD i 0))) ∧ ∀ n ∈ zs, (Lit.int k n).wf = true

set_option maxHeartbeats 4000000 in
theorem walk (a0 : Option Addr) (len0 cap0 : Nat) (z0 : List Go.Proofs.Ytdlbfpodgjkimaa.Zs.Rn) (a1 : Option Addr) (len1 cap1 : Nat) (z1 : List Go.Proofs.Ytdlbfpodgjkimaa.Zs.Rn) (x2 y2 : Int) (w : World) (w0 : Go.Proofs.Ytdlbfpodgjkimaa.Zs.RangesIn w a0 len0 cap0 z0) (w1 : Go.Proofs.Ytdlbfpodgjkimaa.Zs.RangesIn w a1 len1 cap1 z1) (w2 : (Lit.int .i64 x2).wf = true ∧ (Lit.int .i64 y2).wf = true) :
    Calls Try.prog 5 #[.slice a0 len0 cap0, .slice a1 len1 cap1, .agg #[.int .i64 x2, .int .i64 y2]] w fun e w' => e = .returned (.bool true) ∧ Since w w' := by
  obtain ⟨hn0, hS0, hB0, -⟩ := w0
  obtain ⟨hn1, hS1, hB1, -⟩ := w1
  obtain ⟨wx, wy⟩ := w2
  subst hn0 hn1
  have hfx := wf_fits wx
  obtain ⟨W0, hW0⟩ : ∃ W0, W0 = w.alloc (.cells #[.int .i64 x2, .int .i64 y2] 39) := ⟨_, rfl⟩
  have k0 : Since w W0 := by rw [hW0]; exact since_alloc _ _
  have HB := Lib.hid (fun W (k : Since W0 W) => (show Bx W w.heap.size #[.int .i64 x2, .int .i64 y2] 39 from Bx.since (by rw [hW0]; exact Bx.fresh _ _ _) k).two)
  have AL := Lib.hid (hW0 ▸ alive_any W0)
  have K00 := Lib.hid k0
  by_cases b0 : z0.length > 300
  · clear hS0 hB0 hS1 hB1
    subst hW0
    go_enter Try.func5, Try.ntmps5
    go_wp2_with (go_at_call 10; (with_reducible refine AL.out.mono ?_); rintro e w1 ⟨rfl, k1⟩)
    go_ret
    exact ⟨rfl, K00.out.trans k1⟩
  by_cases b1 : z1.length > 300
  · clear hS0 hB0 hS1 hB1
    subst hW0
    go_enter Try.func5, Try.ntmps5
    go_wp2_with (go_at_call 10; (with_reducible refine AL.out.mono ?_); rintro e w1 ⟨rfl, k1⟩)
    go_ret
    exact ⟨rfl, K00.out.trans k1⟩
  obtain ⟨C, hC⟩ : ∃ X, cut z0 x2 y2 = X := ⟨_, rfl⟩
  obtain ⟨U, hU⟩ : ∃ X, without z0 x2 = X := ⟨_, rfl⟩
  obtain ⟨X, hX⟩ : ∃ X, meet z0 z1 = X := ⟨_, rfl⟩
  obtain ⟨sb, hsb⟩ : ∃ b, same z0 z1 = b := ⟨_, rfl⟩
  have hCl : C.length ≤ 300 := by have := cut_len z0 x2 y2; rw [hC] at this; omega
  have hUl : U.length ≤ 600 := by have := without_len z0 x2; rw [hU] at this; omega
  have hXl : X.length ≤ 600 := by have := @meet_len z0 z1; rw [hX] at this; omega
  have CA := Lib.hid (fun W (k : Since w W) => hC ▸ cut_any _ z0 x2 y2 W (hS0.since stR k) (by omega) hB0)
  have CB := Lib.hid (fun W (k : Since w W) => hC ▸ rcut_any _ z0 x2 y2 W (hS0.since stR k) (by omega) hB0)
  have UA := Lib.hid (fun W (k : Since w W) => hU ▸ without_any _ z0 x2 W (hS0.since stR k) (by omega) hB0 hfx)
  have UB := Lib.hid (fun W (k : Since w W) => hU ▸ rwithout_any _ z0 x2 W (hS0.since stR k) (by omega) hB0 hfx)
  have XA := Lib.hid (fun W (k : Since w W) => hX ▸ meet_any _ _ z0 z1 W (hS0.since stR k) (hS1.since stR k) (by omega) (by omega) hB0 hB1)
  have XB := Lib.hid (fun W (k : Since w W) => hX ▸ rmeet_any _ _ z0 z1 W (hS0.since stR k) (hS1.since stR k) (by omega) (by omega) hB0 hB1)
  have SA := Lib.hid (fun W (k : Since w W) => hsb ▸ same_any _ _ z0 z1 W (hS0.since stR k) (hS1.since stR k) (by omega) (by omega) hB0)
  have SB := Lib.hid (fun W (k : Since w W) => hsb ▸ rsame_any _ _ z0 z1 W (hS0.since stR k) (hS1.since stR k) (by omega) (by omega) hB0 hB1)
  clear hS0 hB0 hS1 hB1 hC hU hX hsb hfx wx wy
  subst hW0
  go_enter Try.func5, Try.ntmps5
  go_wp2_with (go_at_call 10; (with_reducible refine AL.out.mono ?_); rintro e w1 ⟨rfl, k1⟩)
  have K1 := K00.out.trans k1
  have HC := Lib.hid (fun W (k : Since w1 W) => HB.out W (k1.trans k))
  have hr0 : Since w1 w1.drew := Since.drew (Since.refl w1)
  refine wp_region_noPanic ?_
  refine Reg.wp_region_G (S := fun _ => True) (fun j => [].contains j) (by kernel_rfl) trivial ?_
  refine' Reg.wpG_take (i := 0) (oi := { dst := some 17, op := Op.move (Operand.tmp 0), type := 22, pos := "law.go:58", after := #[], guard := none }) (v := _) [5, 11, 12, 13, 14, 15, 16, 17, 18, 19, 20, 21, 22, 23, 24, 25, 26, 27, 28, 29, 30, 31, 32, 33, 34, 35, 36, 37, 38, 39, 40, 41, 42] [] rfl rfl (by kernel_rfl) (by kernel_rfl) (by kernel_rfl) (by kernel_rfl) (by kernel_rfl) (by kernel_rfl) (by kernel_rfl) (fun _ _ _ h => h) (Or.inl ⟨by rfl, Or.inl ?hy1⟩) ?rest1
  case hy1 => (intro w' kk ss; obtain ⟨u0, u1⟩ := HC.out _ (hr0.trans kk); go_simp; first | done | with_reducible rfl)
  try simp only [Act.put, List.setIfInBounds_toArray, List.set_cons_zero, List.set_cons_succ]
  refine' Reg.wpG_take (i := 1) (oi := { dst := some 18, op := Op.indexAddr 39 (Operand.tmp 5) (Operand.const (Value.int IntKind.i64 0)), type := 0, pos := "law.go:58", after := #[], guard := none }) (v := _) [2, 5, 11, 12, 13, 14, 15, 16, 17, 18, 19, 20, 21, 22, 23, 24, 25, 26, 27, 28, 29, 30, 31, 32, 33, 34, 35, 36, 37, 38, 39, 40, 41, 42] [] rfl rfl (by kernel_rfl) (by kernel_rfl) (by kernel_rfl) (by kernel_rfl) (by kernel_rfl) (by kernel_rfl) (by kernel_rfl) (fun _ _ _ h => h) (Or.inl ⟨by rfl, Or.inl ?hy2⟩) ?rest2
  case hy2 => (intro w' kk ss; obtain ⟨u0, u1⟩ := HC.out _ (hr0.trans kk); go_simp; first | done | with_reducible rfl)
  try simp only [Act.put, List.setIfInBounds_toArray, List.set_cons_zero, List.set_cons_succ]
  refine' Reg.wpG_take (i := 2) (oi := { dst := some 19, op := Op.load 2 (Operand.tmp 18), type := 2, pos := "law.go:58", after := #[{ on := 1, ground := Ground.data }], guard := none }) (v := _) [5, 11, 12, 13, 14, 15, 16, 17, 18, 19, 20, 21, 22, 23, 24, 25, 26, 27, 28, 29, 30, 31, 32, 33, 34, 35, 36, 37, 38, 39, 40, 41, 42] [] rfl rfl (by kernel_rfl) (by kernel_rfl) (by kernel_rfl) (by kernel_rfl) (by kernel_rfl) (by kernel_rfl) (by kernel_rfl) (fun _ _ _ h => h) (Or.inl ⟨by rfl, Or.inl ?hy3⟩) ?rest3
  case hy3 => (intro w' kk ss; obtain ⟨u0, u1⟩ := HC.out _ (hr0.trans kk); go_simp; first | done | with_reducible rfl)
  try simp only [Act.put, List.setIfInBounds_toArray, List.set_cons_zero, List.set_cons_succ]
  refine' Reg.wpG_take (i := 3) (oi := { dst := some 20, op := Op.indexAddr 39 (Operand.tmp 5) (Operand.const (Value.int IntKind.i64 1)), type := 0, pos := "law.go:58", after := #[], guard := none }) (v := _) [4, 5, 11, 12, 13, 14, 15, 16, 17, 18, 19, 20, 21, 22, 23, 24, 25, 26, 27, 28, 29, 30, 31, 32, 33, 34, 35, 36, 37, 38, 39, 40, 41, 42] [] rfl rfl (by kernel_rfl) (by kernel_rfl) (by kernel_rfl) (by kernel_rfl) (by kernel_rfl) (by kernel_rfl) (by kernel_rfl) (fun _ _ _ h => h) (Or.inl ⟨by rfl, Or.inl ?hy4⟩) ?rest4
  case hy4 => (intro w' kk ss; obtain ⟨u0, u1⟩ := HC.out _ (hr0.trans kk); go_simp; first | done | with_reducible rfl)
  try simp only [Act.put, List.setIfInBounds_toArray, List.set_cons_zero, List.set_cons_succ]
  refine' Reg.wpG_take (i := 4) (oi := { dst := some 21, op := Op.load 2 (Operand.tmp 20), type := 2, pos := "law.go:58", after := #[{ on := 3, ground := Ground.data }], guard := none }) (v := _) [5, 11, 12, 13, 14, 15, 16, 17, 18, 19, 20, 21, 22, 23, 24, 25, 26, 27, 28, 29, 30, 31, 32, 33, 34, 35, 36, 37, 38, 39, 40, 41, 42] [] rfl rfl (by kernel_rfl) (by kernel_rfl) (by kernel_rfl) (by kernel_rfl) (by kernel_rfl) (by kernel_rfl) (by kernel_rfl) (fun _ _ _ h => h) (Or.inl ⟨by rfl, Or.inl ?hy5⟩) ?rest5
  case hy5 => (intro w' kk ss; obtain ⟨u0, u1⟩ := HC.out _ (hr0.trans kk); go_simp; first | done | with_reducible rfl)
  try simp only [Act.put, List.setIfInBounds_toArray, List.set_cons_zero, List.set_cons_succ]
  refine' Reg.wpG_take (i := 6) (oi := { dst := some 23, op := Op.move (Operand.tmp 0), type := 22, pos := "law.go:58", after := #[], guard := none }) (v := _) [11, 12, 13, 14, 15, 16, 17, 18, 19, 20, 21, 22, 23, 24, 25, 26, 27, 28, 29, 30, 31, 32, 33, 34, 35, 36, 37, 38, 39, 40, 41, 42] [] rfl rfl (by kernel_rfl) (by kernel_rfl) (by kernel_rfl) (by kernel_rfl) (by kernel_rfl) (by kernel_rfl) (by kernel_rfl) (fun _ _ _ h => h) (Or.inl ⟨by rfl, Or.inl ?hy6⟩) ?rest6
  case hy6 => (intro w' kk ss; obtain ⟨u0, u1⟩ := HC.out _ (hr0.trans kk); go_simp; first | done | with_reducible rfl)
  try simp only [Act.put, List.setIfInBounds_toArray, List.set_cons_zero, List.set_cons_succ]
  refine' Reg.wpG_take (i := 7) (oi := { dst := some 24, op := Op.indexAddr 39 (Operand.tmp 5) (Operand.const (Value.int IntKind.i64 0)), type := 0, pos := "law.go:58", after := #[], guard := none }) (v := _) [8, 11, 12, 13, 14, 15, 16, 17, 18, 19, 20, 21, 22, 23, 24, 25, 26, 27, 28, 29, 30, 31, 32, 33, 34, 35, 36, 37, 38, 39, 40, 41, 42] [] rfl rfl (by kernel_rfl) (by kernel_rfl) (by kernel_rfl) (by kernel_rfl) (by kernel_rfl) (by kernel_rfl) (by kernel_rfl) (fun _ _ _ h => h) (Or.inl ⟨by rfl, Or.inl ?hy7⟩) ?rest7
  case hy7 => (intro w' kk ss; obtain ⟨u0, u1⟩ := HC.out _ (hr0.trans kk); go_simp; first | done | with_reducible rfl)
  try simp only [Act.put, List.setIfInBounds_toArray, List.set_cons_zero, List.set_cons_succ]
  refine' Reg.wpG_take (i := 8) (oi := { dst := some 25, op := Op.load 2 (Operand.tmp 24), type := 2, pos := "law.go:58", after := #[{ on := 7, ground := Ground.data }], guard := none }) (v := _) [11, 12, 13, 14, 15, 16, 17, 18, 19, 20, 21, 22, 23, 24, 25, 26, 27, 28, 29, 30, 31, 32, 33, 34, 35, 36, 37, 38, 39, 40, 41, 42] [] rfl rfl (by kernel_rfl) (by kernel_rfl) (by kernel_rfl) (by kernel_rfl) (by kernel_rfl) (by kernel_rfl) (by kernel_rfl) (fun _ _ _ h => h) (Or.inl ⟨by rfl, Or.inl ?hy8⟩) ?rest8
  case hy8 => (intro w' kk ss; obtain ⟨u0, u1⟩ := HC.out _ (hr0.trans kk); go_simp; first | done | with_reducible rfl)
  try simp only [Act.put, List.setIfInBounds_toArray, List.set_cons_zero, List.set_cons_succ]
  refine' Reg.wpG_take (i := 9) (oi := { dst := some 26, op := Op.indexAddr 39 (Operand.tmp 5) (Operand.const (Value.int IntKind.i64 1)), type := 0, pos := "law.go:58", after := #[], guard := none }) (v := _) [10, 11, 12, 13, 14, 15, 16, 17, 18, 19, 20, 21, 22, 23, 24, 25, 26, 27, 28, 29, 30, 31, 32, 33, 34, 35, 36, 37, 38, 39, 40, 41, 42] [] rfl rfl (by kernel_rfl) (by kernel_rfl) (by kernel_rfl) (by kernel_rfl) (by kernel_rfl) (by kernel_rfl) (by kernel_rfl) (fun _ _ _ h => h) (Or.inl ⟨by rfl, Or.inl ?hy9⟩) ?rest9
  case hy9 => (intro w' kk ss; obtain ⟨u0, u1⟩ := HC.out _ (hr0.trans kk); go_simp; first | done | with_reducible rfl)
  try simp only [Act.put, List.setIfInBounds_toArray, List.set_cons_zero, List.set_cons_succ]
  refine' Reg.wpG_take (i := 10) (oi := { dst := some 27, op := Op.load 2 (Operand.tmp 26), type := 2, pos := "law.go:58", after := #[{ on := 9, ground := Ground.data }], guard := none }) (v := _) [11, 12, 13, 14, 15, 16, 17, 18, 19, 20, 21, 22, 23, 24, 25, 26, 27, 28, 29, 30, 31, 32, 33, 34, 35, 36, 37, 38, 39, 40, 41, 42] [] rfl rfl (by kernel_rfl) (by kernel_rfl) (by kernel_rfl) (by kernel_rfl) (by kernel_rfl) (by kernel_rfl) (by kernel_rfl) (fun _ _ _ h => h) (Or.inl ⟨by rfl, Or.inl ?hy10⟩) ?rest10
  case hy10 => (intro w' kk ss; obtain ⟨u0, u1⟩ := HC.out _ (hr0.trans kk); go_simp; first | done | with_reducible rfl)
  try simp only [Act.put, List.setIfInBounds_toArray, List.set_cons_zero, List.set_cons_succ]
  refine Reg.wpG_ready (rs := [5]) (by kernel_rfl) (by simp) (fun wa1 ka1 sa1 => ?_)
  have hr0 := hr0.trans ka1
  have hgb1 := hr0.size
  refine Reg.AllG.first (o := { dst := some 22, op := Op.call { callee := Callee.value (Operand.func 24), args := #[Operand.tmp 17, Operand.tmp 19, Operand.tmp 21], argTypes := #[22, 2, 2] }, type := 22, pos := "law.go:58", after := #[{ on := 0, ground := Ground.data }, { on := 2, ground := Ground.data }, { on := 4, ground := Ground.data }], guard := none }) rfl (by rfl) (fun K hK => ?_) Reg.AllG.nil
  go_simp
  (with_reducible refine (CA.out wa1 (K1.trans hr0)).mono ?_)
  rintro e ya1 ⟨A5, m5, c5, rfl, -, h5, hx⟩
  refine hK.out _ _ trivial hx ?_
  clear hK K
  have hr0 := hr0.trans hx
  try simp only [Act.put, List.setIfInBounds_toArray, List.set_cons_zero, List.set_cons_succ]
  refine Reg.wpG_ready (rs := [11]) (by kernel_rfl) (by simp) (fun wa2 ka2 sa2 => ?_)
  have hr0 := hr0.trans ka2
  have hgb2 := hr0.size
  have h5 := h5.since stR ka2
  refine Reg.AllG.first (o := { dst := some 28, op := Op.call { callee := Callee.value (Operand.func 25), args := #[Operand.tmp 23, Operand.tmp 25, Operand.tmp 27], argTypes := #[22, 2, 2] }, type := 22, pos := "law.go:58", after := #[{ on := 6, ground := Ground.data }, { on := 8, ground := Ground.data }, { on := 10, ground := Ground.data }, { on := 5, ground := Ground.chain }], guard := none }) rfl (by rfl) (fun K hK => ?_) Reg.AllG.nil
  go_simp
  (with_reducible refine (CB.out wa2 (K1.trans hr0)).mono ?_)
  rintro e ya2 ⟨A11, m11, c11, rfl, -, h11, hx⟩
  refine hK.out _ _ trivial hx ?_
  clear hK K
  have hr0 := hr0.trans hx
  have h5 := h5.since stR hx
  try simp only [Act.put, List.setIfInBounds_toArray, List.set_cons_zero, List.set_cons_succ]
  refine Reg.wpG_take (i := 12) (oi := { dst := some 29, op := Op.call { callee := Callee.value (Operand.func 13), args := #[Operand.tmp 22, Operand.tmp 28], argTypes := #[22, 22] }, type := 4, pos := "law.go:58", after := #[{ on := 5, ground := Ground.data }, { on := 11, ground := Ground.data }, { on := 11, ground := Ground.chain }], guard := none }) (v := .bool true) [13, 14, 15, 16, 17, 18, 19, 20, 21, 22, 23, 24, 25, 26, 27, 28, 29, 30, 31, 32, 33, 34, 35, 36, 37, 38, 39, 40, 41, 42] [] rfl rfl (by kernel_rfl) (by kernel_rfl) (by kernel_rfl) (by kernel_rfl) (by kernel_rfl) (by kernel_rfl) (by kernel_rfl) (fun _ _ _ h => h) (Or.inl ⟨by rfl, Or.inr ⟨13, #[.slice A5 m5 c5, .slice A11 m11 c11], fun w' kk ss => ⟨?_, ?_⟩⟩⟩) ?_
  · (try dsimp only at ss); go_simp
  · exact (ranges_yes (h5.since stR kk) (h11.since stR kk) (by omega)).mono fun e w'' h => ⟨h.1, h.2, trivial⟩
  try simp only [Act.put, List.setIfInBounds_toArray, List.set_cons_zero, List.set_cons_succ]
  refine' Reg.wpG_take (i := 13) (oi := { dst := some 30, op := Op.move (Operand.tmp 29), type := 4, pos := "law.go:58", after := #[{ on := 12, ground := Ground.data }, { on := 12, ground := Ground.chain }], guard := none }) (v := _) [14, 15, 16, 17, 18, 19, 20, 21, 22, 23, 24, 25, 26, 27, 28, 29, 30, 31, 32, 33, 34, 35, 36, 37, 38, 39, 40, 41, 42] [] rfl rfl (by kernel_rfl) (by kernel_rfl) (by kernel_rfl) (by kernel_rfl) (by kernel_rfl) (by kernel_rfl) (by kernel_rfl) (fun _ _ _ h => h) (Or.inl ⟨by rfl, Or.inl ?hy11⟩) ?rest11
  case hy11 => (intro w' kk ss; obtain ⟨u0, u1⟩ := HC.out _ (hr0.trans kk); go_simp; first | done | with_reducible rfl)
  try simp only [Act.put, List.setIfInBounds_toArray, List.set_cons_zero, List.set_cons_succ]
  refine' Reg.wpG_take (i := 14) (oi := { dst := some 31, op := Op.move (Operand.tmp 0), type := 22, pos := "law.go:58", after := #[{ on := 13, ground := Ground.guard }], guard := some (13, true) }) (v := _) [17, 21, 22, 23, 24, 25, 26, 27, 28, 29, 30, 31, 32, 33, 34, 35, 36, 37, 38, 39, 40, 41, 42] [] rfl rfl (by kernel_rfl) (by kernel_rfl) (by kernel_rfl) (by kernel_rfl) (by kernel_rfl) (by kernel_rfl) (by kernel_rfl) (fun _ _ _ h => h) (Or.inl ⟨by rfl, Or.inl ?hy12⟩) ?rest12
  case hy12 => (intro w' kk ss; obtain ⟨u0, u1⟩ := HC.out _ (hr0.trans kk); go_simp; first | done | with_reducible rfl)
  try simp only [Act.put, List.setIfInBounds_toArray, List.set_cons_zero, List.set_cons_succ]
  refine' Reg.wpG_take (i := 15) (oi := { dst := some 32, op := Op.indexAddr 39 (Operand.tmp 5) (Operand.const (Value.int IntKind.i64 0)), type := 0, pos := "law.go:58", after := #[{ on := 13, ground := Ground.guard }], guard := some (13, true) }) (v := _) [16, 17, 21, 22, 23, 24, 25, 26, 27, 28, 29, 30, 31, 32, 33, 34, 35, 36, 37, 38, 39, 40, 41, 42] [] rfl rfl (by kernel_rfl) (by kernel_rfl) (by kernel_rfl) (by kernel_rfl) (by kernel_rfl) (by kernel_rfl) (by kernel_rfl) (fun _ _ _ h => h) (Or.inl ⟨by rfl, Or.inl ?hy13⟩) ?rest13
  case hy13 => (intro w' kk ss; obtain ⟨u0, u1⟩ := HC.out _ (hr0.trans kk); go_simp; first | done | with_reducible rfl)
  try simp only [Act.put, List.setIfInBounds_toArray, List.set_cons_zero, List.set_cons_succ]
  refine' Reg.wpG_take (i := 16) (oi := { dst := some 33, op := Op.load 2 (Operand.tmp 32), type := 2, pos := "law.go:58", after := #[{ on := 15, ground := Ground.data }, { on := 13, ground := Ground.guard }], guard := some (13, true) }) (v := _) [17, 21, 22, 23, 24, 25, 26, 27, 28, 29, 30, 31, 32, 33, 34, 35, 36, 37, 38, 39, 40, 41, 42] [] rfl rfl (by kernel_rfl) (by kernel_rfl) (by kernel_rfl) (by kernel_rfl) (by kernel_rfl) (by kernel_rfl) (by kernel_rfl) (fun _ _ _ h => h) (Or.inl ⟨by rfl, Or.inl ?hy14⟩) ?rest14
  case hy14 => (intro w' kk ss; obtain ⟨u0, u1⟩ := HC.out _ (hr0.trans kk); go_simp; first | done | with_reducible rfl)
  try simp only [Act.put, List.setIfInBounds_toArray, List.set_cons_zero, List.set_cons_succ]
  refine' Reg.wpG_take (i := 18) (oi := { dst := some 35, op := Op.move (Operand.tmp 0), type := 22, pos := "law.go:58", after := #[{ on := 13, ground := Ground.guard }], guard := some (13, true) }) (v := _) [21, 22, 23, 24, 25, 26, 27, 28, 29, 30, 31, 32, 33, 34, 35, 36, 37, 38, 39, 40, 41, 42] [] rfl rfl (by kernel_rfl) (by kernel_rfl) (by kernel_rfl) (by kernel_rfl) (by kernel_rfl) (by kernel_rfl) (by kernel_rfl) (fun _ _ _ h => h) (Or.inl ⟨by rfl, Or.inl ?hy15⟩) ?rest15
  case hy15 => (intro w' kk ss; obtain ⟨u0, u1⟩ := HC.out _ (hr0.trans kk); go_simp; first | done | with_reducible rfl)
  try simp only [Act.put, List.setIfInBounds_toArray, List.set_cons_zero, List.set_cons_succ]
  refine' Reg.wpG_take (i := 19) (oi := { dst := some 36, op := Op.indexAddr 39 (Operand.tmp 5) (Operand.const (Value.int IntKind.i64 0)), type := 0, pos := "law.go:58", after := #[{ on := 13, ground := Ground.guard }], guard := some (13, true) }) (v := _) [20, 21, 22, 23, 24, 25, 26, 27, 28, 29, 30, 31, 32, 33, 34, 35, 36, 37, 38, 39, 40, 41, 42] [] rfl rfl (by kernel_rfl) (by kernel_rfl) (by kernel_rfl) (by kernel_rfl) (by kernel_rfl) (by kernel_rfl) (by kernel_rfl) (fun _ _ _ h => h) (Or.inl ⟨by rfl, Or.inl ?hy16⟩) ?rest16
  case hy16 => (intro w' kk ss; obtain ⟨u0, u1⟩ := HC.out _ (hr0.trans kk); go_simp; first | done | with_reducible rfl)
  try simp only [Act.put, List.setIfInBounds_toArray, List.set_cons_zero, List.set_cons_succ]
  refine' Reg.wpG_take (i := 20) (oi := { dst := some 37, op := Op.load 2 (Operand.tmp 36), type := 2, pos := "law.go:58", after := #[{ on := 19, ground := Ground.data }, { on := 13, ground := Ground.guard }], guard := some (13, true) }) (v := _) [21, 22, 23, 24, 25, 26, 27, 28, 29, 30, 31, 32, 33, 34, 35, 36, 37, 38, 39, 40, 41, 42] [] rfl rfl (by kernel_rfl) (by kernel_rfl) (by kernel_rfl) (by kernel_rfl) (by kernel_rfl) (by kernel_rfl) (by kernel_rfl) (fun _ _ _ h => h) (Or.inl ⟨by rfl, Or.inl ?hy17⟩) ?rest17
  case hy17 => (intro w' kk ss; obtain ⟨u0, u1⟩ := HC.out _ (hr0.trans kk); go_simp; first | done | with_reducible rfl)
  try simp only [Act.put, List.setIfInBounds_toArray, List.set_cons_zero, List.set_cons_succ]
  refine Reg.wpG_ready (rs := [17]) (by kernel_rfl) (by simp) (fun wa3 ka3 sa3 => ?_)
  have hr0 := hr0.trans ka3
  have hgb3 := hr0.size
  have h5 := h5.since stR ka3
  have h11 := h11.since stR ka3
  refine Reg.AllG.first (o := { dst := some 34, op := Op.call { callee := Callee.value (Operand.func 26), args := #[Operand.tmp 31, Operand.tmp 33], argTypes := #[22, 2] }, type := 22, pos := "law.go:58", after := #[{ on := 14, ground := Ground.data }, { on := 16, ground := Ground.data }, { on := 13, ground := Ground.chain }, { on := 13, ground := Ground.guard }], guard := some (13, true) }) rfl (by rfl) (fun K hK => ?_) Reg.AllG.nil
  go_simp
  (with_reducible refine (UA.out wa3 (K1.trans hr0)).mono ?_)
  rintro e ya3 ⟨A17, m17, c17, rfl, -, h17, hx⟩
  refine hK.out _ _ trivial hx ?_
  clear hK K
  have hr0 := hr0.trans hx
  have h5 := h5.since stR hx
  have h11 := h11.since stR hx
  try simp only [Act.put, List.setIfInBounds_toArray, List.set_cons_zero, List.set_cons_succ]
  refine Reg.wpG_ready (rs := [21]) (by kernel_rfl) (by simp) (fun wa4 ka4 sa4 => ?_)
  have hr0 := hr0.trans ka4
  have hgb4 := hr0.size
  have h5 := h5.since stR ka4
  have h11 := h11.since stR ka4
  have h17 := h17.since stR ka4
  refine Reg.AllG.first (o := { dst := some 38, op := Op.call { callee := Callee.value (Operand.func 27), args := #[Operand.tmp 35, Operand.tmp 37], argTypes := #[22, 2] }, type := 22, pos := "law.go:58", after := #[{ on := 18, ground := Ground.data }, { on := 20, ground := Ground.data }, { on := 17, ground := Ground.chain }, { on := 13, ground := Ground.guard }], guard := some (13, true) }) rfl (by rfl) (fun K hK => ?_) Reg.AllG.nil
  go_simp
  (with_reducible refine (UB.out wa4 (K1.trans hr0)).mono ?_)
  rintro e ya4 ⟨A21, m21, c21, rfl, -, h21, hx⟩
  refine hK.out _ _ trivial hx ?_
  clear hK K
  have hr0 := hr0.trans hx
  have h5 := h5.since stR hx
  have h11 := h11.since stR hx
  have h17 := h17.since stR hx
  try simp only [Act.put, List.setIfInBounds_toArray, List.set_cons_zero, List.set_cons_succ]
  refine Reg.wpG_take (i := 22) (oi := { dst := some 39, op := Op.call { callee := Callee.value (Operand.func 13), args := #[Operand.tmp 34, Operand.tmp 38], argTypes := #[22, 22] }, type := 4, pos := "law.go:58", after := #[{ on := 17, ground := Ground.data }, { on := 21, ground := Ground.data }, { on := 21, ground := Ground.chain }, { on := 13, ground := Ground.guard }], guard := some (13, true) }) (v := .bool true) [23, 24, 25, 26, 27, 28, 29, 30, 31, 32, 33, 34, 35, 36, 37, 38, 39, 40, 41, 42] [] rfl rfl (by kernel_rfl) (by kernel_rfl) (by kernel_rfl) (by kernel_rfl) (by kernel_rfl) (by kernel_rfl) (by kernel_rfl) (fun _ _ _ h => h) (Or.inl ⟨by rfl, Or.inr ⟨13, #[.slice A17 m17 c17, .slice A21 m21 c21], fun w' kk ss => ⟨?_, ?_⟩⟩⟩) ?_
  · (try dsimp only at ss); go_simp
  · exact (ranges_yes (h17.since stR kk) (h21.since stR kk) (by omega)).mono fun e w'' h => ⟨h.1, h.2, trivial⟩
  try simp only [Act.put, List.setIfInBounds_toArray, List.set_cons_zero, List.set_cons_succ]
  refine' Reg.wpG_take (i := 23) (oi := { dst := some 40, op := Op.pick (Operand.tmp 30) (Operand.tmp 39) (Operand.const (Value.bool false)), type := 4, pos := "law.go:58", after := #[{ on := 13, ground := Ground.data }, { on := 22, ground := Ground.data }], guard := none }) (v := _) [24, 25, 26, 27, 28, 29, 30, 31, 32, 33, 34, 35, 36, 37, 38, 39, 40, 41, 42] [] rfl rfl (by kernel_rfl) (by kernel_rfl) (by kernel_rfl) (by kernel_rfl) (by kernel_rfl) (by kernel_rfl) (by kernel_rfl) (fun _ _ _ h => h) (Or.inl ⟨by rfl, Or.inl ?hy18⟩) ?rest18
  case hy18 => (intro w' kk ss; obtain ⟨u0, u1⟩ := HC.out _ (hr0.trans kk); go_simp; first | done | with_reducible rfl)
  try simp only [Act.put, List.setIfInBounds_toArray, List.set_cons_zero, List.set_cons_succ]
  refine' Reg.wpG_take (i := 24) (oi := { dst := some 41, op := Op.move (Operand.tmp 40), type := 4, pos := "law.go:58", after := #[{ on := 23, ground := Ground.data }, { on := 22, ground := Ground.chain }], guard := none }) (v := _) [25, 26, 27, 28, 29, 30, 31, 32, 33, 34, 35, 36, 37, 38, 39, 40, 41, 42] [] rfl rfl (by kernel_rfl) (by kernel_rfl) (by kernel_rfl) (by kernel_rfl) (by kernel_rfl) (by kernel_rfl) (by kernel_rfl) (fun _ _ _ h => h) (Or.inl ⟨by rfl, Or.inl ?hy19⟩) ?rest19
  case hy19 => (intro w' kk ss; obtain ⟨u0, u1⟩ := HC.out _ (hr0.trans kk); go_simp; first | done | with_reducible rfl)
  try simp only [Act.put, List.setIfInBounds_toArray, List.set_cons_zero, List.set_cons_succ]
  refine' Reg.wpG_take (i := 25) (oi := { dst := some 42, op := Op.move (Operand.tmp 0), type := 22, pos := "law.go:58", after := #[{ on := 24, ground := Ground.guard }], guard := some (24, true) }) (v := _) [27, 30, 31, 32, 33, 34, 35, 36, 37, 38, 39, 40, 41, 42] [] rfl rfl (by kernel_rfl) (by kernel_rfl) (by kernel_rfl) (by kernel_rfl) (by kernel_rfl) (by kernel_rfl) (by kernel_rfl) (fun _ _ _ h => h) (Or.inl ⟨by rfl, Or.inl ?hy20⟩) ?rest20
  case hy20 => (intro w' kk ss; obtain ⟨u0, u1⟩ := HC.out _ (hr0.trans kk); go_simp; first | done | with_reducible rfl)
  try simp only [Act.put, List.setIfInBounds_toArray, List.set_cons_zero, List.set_cons_succ]
  refine' Reg.wpG_take (i := 26) (oi := { dst := some 43, op := Op.move (Operand.tmp 1), type := 22, pos := "law.go:58", after := #[{ on := 24, ground := Ground.guard }], guard := some (24, true) }) (v := _) [27, 30, 31, 32, 33, 34, 35, 36, 37, 38, 39, 40, 41, 42] [] rfl rfl (by kernel_rfl) (by kernel_rfl) (by kernel_rfl) (by kernel_rfl) (by kernel_rfl) (by kernel_rfl) (by kernel_rfl) (fun _ _ _ h => h) (Or.inl ⟨by rfl, Or.inl ?hy21⟩) ?rest21
  case hy21 => (intro w' kk ss; obtain ⟨u0, u1⟩ := HC.out _ (hr0.trans kk); go_simp; first | done | with_reducible rfl)
  try simp only [Act.put, List.setIfInBounds_toArray, List.set_cons_zero, List.set_cons_succ]
  refine' Reg.wpG_take (i := 28) (oi := { dst := some 45, op := Op.move (Operand.tmp 0), type := 22, pos := "law.go:58", after := #[{ on := 24, ground := Ground.guard }], guard := some (24, true) }) (v := _) [30, 31, 32, 33, 34, 35, 36, 37, 38, 39, 40, 41, 42] [] rfl rfl (by kernel_rfl) (by kernel_rfl) (by kernel_rfl) (by kernel_rfl) (by kernel_rfl) (by kernel_rfl) (by kernel_rfl) (fun _ _ _ h => h) (Or.inl ⟨by rfl, Or.inl ?hy22⟩) ?rest22
  case hy22 => (intro w' kk ss; obtain ⟨u0, u1⟩ := HC.out _ (hr0.trans kk); go_simp; first | done | with_reducible rfl)
  try simp only [Act.put, List.setIfInBounds_toArray, List.set_cons_zero, List.set_cons_succ]
  refine' Reg.wpG_take (i := 29) (oi := { dst := some 46, op := Op.move (Operand.tmp 1), type := 22, pos := "law.go:58", after := #[{ on := 24, ground := Ground.guard }], guard := some (24, true) }) (v := _) [30, 31, 32, 33, 34, 35, 36, 37, 38, 39, 40, 41, 42] [] rfl rfl (by kernel_rfl) (by kernel_rfl) (by kernel_rfl) (by kernel_rfl) (by kernel_rfl) (by kernel_rfl) (by kernel_rfl) (fun _ _ _ h => h) (Or.inl ⟨by rfl, Or.inl ?hy23⟩) ?rest23
  case hy23 => (intro w' kk ss; obtain ⟨u0, u1⟩ := HC.out _ (hr0.trans kk); go_simp; first | done | with_reducible rfl)
  try simp only [Act.put, List.setIfInBounds_toArray, List.set_cons_zero, List.set_cons_succ]
  refine Reg.wpG_ready (rs := [27]) (by kernel_rfl) (by simp) (fun wa5 ka5 sa5 => ?_)
  have hr0 := hr0.trans ka5
  have hgb5 := hr0.size
  have h5 := h5.since stR ka5
  have h11 := h11.since stR ka5
  have h17 := h17.since stR ka5
  have h21 := h21.since stR ka5
  refine Reg.AllG.first (o := { dst := some 44, op := Op.call { callee := Callee.value (Operand.func 28), args := #[Operand.tmp 42, Operand.tmp 43], argTypes := #[22, 22] }, type := 22, pos := "law.go:58", after := #[{ on := 25, ground := Ground.data }, { on := 26, ground := Ground.data }, { on := 24, ground := Ground.chain }, { on := 24, ground := Ground.guard }], guard := some (24, true) }) rfl (by rfl) (fun K hK => ?_) Reg.AllG.nil
  go_simp
  (with_reducible refine (XA.out wa5 (K1.trans hr0)).mono ?_)
  rintro e ya5 ⟨A27, m27, c27, rfl, -, h27, hx⟩
  refine hK.out _ _ trivial hx ?_
  clear hK K
  have hr0 := hr0.trans hx
  have h5 := h5.since stR hx
  have h11 := h11.since stR hx
  have h17 := h17.since stR hx
  have h21 := h21.since stR hx
  try simp only [Act.put, List.setIfInBounds_toArray, List.set_cons_zero, List.set_cons_succ]
  refine Reg.wpG_ready (rs := [30]) (by kernel_rfl) (by simp) (fun wa6 ka6 sa6 => ?_)
  have hr0 := hr0.trans ka6
  have hgb6 := hr0.size
  have h5 := h5.since stR ka6
  have h11 := h11.since stR ka6
  have h17 := h17.since stR ka6
  have h21 := h21.since stR ka6
  have h27 := h27.since stR ka6
  refine Reg.AllG.first (o := { dst := some 47, op := Op.call { callee := Callee.value (Operand.func 29), args := #[Operand.tmp 45, Operand.tmp 46], argTypes := #[22, 22] }, type := 22, pos := "law.go:58", after := #[{ on := 28, ground := Ground.data }, { on := 29, ground := Ground.data }, { on := 27, ground := Ground.chain }, { on := 24, ground := Ground.guard }], guard := some (24, true) }) rfl (by rfl) (fun K hK => ?_) Reg.AllG.nil
  go_simp
  (with_reducible refine (XB.out wa6 (K1.trans hr0)).mono ?_)
  rintro e ya6 ⟨A30, m30, c30, rfl, -, h30, hx⟩
  refine hK.out _ _ trivial hx ?_
  clear hK K
  have hr0 := hr0.trans hx
  have h5 := h5.since stR hx
  have h11 := h11.since stR hx
  have h17 := h17.since stR hx
  have h21 := h21.since stR hx
  have h27 := h27.since stR hx
  try simp only [Act.put, List.setIfInBounds_toArray, List.set_cons_zero, List.set_cons_succ]
  refine Reg.wpG_take (i := 31) (oi := { dst := some 48, op := Op.call { callee := Callee.value (Operand.func 13), args := #[Operand.tmp 44, Operand.tmp 47], argTypes := #[22, 22] }, type := 4, pos := "law.go:58", after := #[{ on := 27, ground := Ground.data }, { on := 30, ground := Ground.data }, { on := 30, ground := Ground.chain }, { on := 24, ground := Ground.guard }], guard := some (24, true) }) (v := .bool true) [32, 33, 34, 35, 36, 37, 38, 39, 40, 41, 42] [] rfl rfl (by kernel_rfl) (by kernel_rfl) (by kernel_rfl) (by kernel_rfl) (by kernel_rfl) (by kernel_rfl) (by kernel_rfl) (fun _ _ _ h => h) (Or.inl ⟨by rfl, Or.inr ⟨13, #[.slice A27 m27 c27, .slice A30 m30 c30], fun w' kk ss => ⟨?_, ?_⟩⟩⟩) ?_
  · (try dsimp only at ss); go_simp
  · exact (ranges_yes (h27.since stR kk) (h30.since stR kk) (by omega)).mono fun e w'' h => ⟨h.1, h.2, trivial⟩
  try simp only [Act.put, List.setIfInBounds_toArray, List.set_cons_zero, List.set_cons_succ]
  refine' Reg.wpG_take (i := 32) (oi := { dst := some 49, op := Op.pick (Operand.tmp 41) (Operand.tmp 48) (Operand.const (Value.bool false)), type := 4, pos := "law.go:58", after := #[{ on := 24, ground := Ground.data }, { on := 31, ground := Ground.data }], guard := none }) (v := _) [33, 34, 35, 36, 37, 38, 39, 40, 41, 42] [] rfl rfl (by kernel_rfl) (by kernel_rfl) (by kernel_rfl) (by kernel_rfl) (by kernel_rfl) (by kernel_rfl) (by kernel_rfl) (fun _ _ _ h => h) (Or.inl ⟨by rfl, Or.inl ?hy24⟩) ?rest24
  case hy24 => (intro w' kk ss; obtain ⟨u0, u1⟩ := HC.out _ (hr0.trans kk); go_simp; first | done | with_reducible rfl)
  try simp only [Act.put, List.setIfInBounds_toArray, List.set_cons_zero, List.set_cons_succ]
  refine' Reg.wpG_take (i := 33) (oi := { dst := some 50, op := Op.move (Operand.tmp 49), type := 4, pos := "law.go:58", after := #[{ on := 32, ground := Ground.data }, { on := 31, ground := Ground.chain }], guard := none }) (v := _) [34, 35, 36, 37, 38, 39, 40, 41, 42] [] rfl rfl (by kernel_rfl) (by kernel_rfl) (by kernel_rfl) (by kernel_rfl) (by kernel_rfl) (by kernel_rfl) (by kernel_rfl) (fun _ _ _ h => h) (Or.inl ⟨by rfl, Or.inl ?hy25⟩) ?rest25
  case hy25 => (intro w' kk ss; obtain ⟨u0, u1⟩ := HC.out _ (hr0.trans kk); go_simp; first | done | with_reducible rfl)
  try simp only [Act.put, List.setIfInBounds_toArray, List.set_cons_zero, List.set_cons_succ]
  refine' Reg.wpG_take (i := 34) (oi := { dst := some 51, op := Op.move (Operand.tmp 0), type := 22, pos := "law.go:58", after := #[{ on := 33, ground := Ground.guard }], guard := some (33, true) }) (v := _) [36, 39, 40, 41, 42] [] rfl rfl (by kernel_rfl) (by kernel_rfl) (by kernel_rfl) (by kernel_rfl) (by kernel_rfl) (by kernel_rfl) (by kernel_rfl) (fun _ _ _ h => h) (Or.inl ⟨by rfl, Or.inl ?hy26⟩) ?rest26
  case hy26 => (intro w' kk ss; obtain ⟨u0, u1⟩ := HC.out _ (hr0.trans kk); go_simp; first | done | with_reducible rfl)
  try simp only [Act.put, List.setIfInBounds_toArray, List.set_cons_zero, List.set_cons_succ]
  refine' Reg.wpG_take (i := 35) (oi := { dst := some 52, op := Op.move (Operand.tmp 1), type := 22, pos := "law.go:58", after := #[{ on := 33, ground := Ground.guard }], guard := some (33, true) }) (v := _) [36, 39, 40, 41, 42] [] rfl rfl (by kernel_rfl) (by kernel_rfl) (by kernel_rfl) (by kernel_rfl) (by kernel_rfl) (by kernel_rfl) (by kernel_rfl) (fun _ _ _ h => h) (Or.inl ⟨by rfl, Or.inl ?hy27⟩) ?rest27
  case hy27 => (intro w' kk ss; obtain ⟨u0, u1⟩ := HC.out _ (hr0.trans kk); go_simp; first | done | with_reducible rfl)
  try simp only [Act.put, List.setIfInBounds_toArray, List.set_cons_zero, List.set_cons_succ]
  refine Reg.wpG_take (i := 36) (oi := { dst := some 53, op := Op.call { callee := Callee.value (Operand.func 30), args := #[Operand.tmp 51, Operand.tmp 52], argTypes := #[22, 22] }, type := 4, pos := "law.go:58", after := #[{ on := 34, ground := Ground.data }, { on := 35, ground := Ground.data }, { on := 33, ground := Ground.chain }, { on := 33, ground := Ground.guard }], guard := some (33, true) }) (v := .bool sb) [39, 40, 41, 42] [] rfl rfl (by kernel_rfl) (by kernel_rfl) (by kernel_rfl) (by kernel_rfl) (by kernel_rfl) (by kernel_rfl) (by kernel_rfl) (fun _ _ _ h => h) (Or.inl ⟨by rfl, Or.inr ⟨30, #[.slice a0 z0.length cap0, .slice a1 z1.length cap1], fun w' kk ss => ⟨?_, ?_⟩⟩⟩) ?_
  · (try dsimp only at ss); go_simp
  · exact (SA.out w' (K1.trans (hr0.trans kk))).mono fun e w'' h => ⟨h.1, h.2, trivial⟩
  try simp only [Act.put, List.setIfInBounds_toArray, List.set_cons_zero, List.set_cons_succ]
  refine' Reg.wpG_take (i := 37) (oi := { dst := some 54, op := Op.move (Operand.tmp 0), type := 22, pos := "law.go:58", after := #[{ on := 33, ground := Ground.guard }], guard := some (33, true) }) (v := _) [39, 40, 41, 42] [] rfl rfl (by kernel_rfl) (by kernel_rfl) (by kernel_rfl) (by kernel_rfl) (by kernel_rfl) (by kernel_rfl) (by kernel_rfl) (fun _ _ _ h => h) (Or.inl ⟨by rfl, Or.inl ?hy28⟩) ?rest28
  case hy28 => (intro w' kk ss; obtain ⟨u0, u1⟩ := HC.out _ (hr0.trans kk); go_simp; first | done | with_reducible rfl)
  try simp only [Act.put, List.setIfInBounds_toArray, List.set_cons_zero, List.set_cons_succ]
  refine' Reg.wpG_take (i := 38) (oi := { dst := some 55, op := Op.move (Operand.tmp 1), type := 22, pos := "law.go:58", after := #[{ on := 33, ground := Ground.guard }], guard := some (33, true) }) (v := _) [39, 40, 41, 42] [] rfl rfl (by kernel_rfl) (by kernel_rfl) (by kernel_rfl) (by kernel_rfl) (by kernel_rfl) (by kernel_rfl) (by kernel_rfl) (fun _ _ _ h => h) (Or.inl ⟨by rfl, Or.inl ?hy29⟩) ?rest29
  case hy29 => (intro w' kk ss; obtain ⟨u0, u1⟩ := HC.out _ (hr0.trans kk); go_simp; first | done | with_reducible rfl)
  try simp only [Act.put, List.setIfInBounds_toArray, List.set_cons_zero, List.set_cons_succ]
  refine Reg.wpG_take (i := 39) (oi := { dst := some 56, op := Op.call { callee := Callee.value (Operand.func 31), args := #[Operand.tmp 54, Operand.tmp 55], argTypes := #[22, 22] }, type := 4, pos := "law.go:58", after := #[{ on := 37, ground := Ground.data }, { on := 38, ground := Ground.data }, { on := 36, ground := Ground.chain }, { on := 33, ground := Ground.guard }], guard := some (33, true) }) (v := .bool sb) [40, 41, 42] [] rfl rfl (by kernel_rfl) (by kernel_rfl) (by kernel_rfl) (by kernel_rfl) (by kernel_rfl) (by kernel_rfl) (by kernel_rfl) (fun _ _ _ h => h) (Or.inl ⟨by rfl, Or.inr ⟨31, #[.slice a0 z0.length cap0, .slice a1 z1.length cap1], fun w' kk ss => ⟨?_, ?_⟩⟩⟩) ?_
  · (try dsimp only at ss); go_simp
  · exact (SB.out w' (K1.trans (hr0.trans kk))).mono fun e w'' h => ⟨h.1, h.2, trivial⟩
  try simp only [Act.put, List.setIfInBounds_toArray, List.set_cons_zero, List.set_cons_succ]
  refine' Reg.wpG_take (i := 40) (oi := { dst := some 57, op := Op.binOp BinOp.eql 4 (Operand.tmp 53) (Operand.tmp 56) 4, type := 4, pos := "law.go:58", after := #[{ on := 36, ground := Ground.data }, { on := 39, ground := Ground.data }, { on := 33, ground := Ground.guard }], guard := some (33, true) }) (v := _) [41, 42] [] rfl rfl (by kernel_rfl) (by kernel_rfl) (by kernel_rfl) (by kernel_rfl) (by kernel_rfl) (by kernel_rfl) (by kernel_rfl) (fun _ _ _ h => h) (Or.inl ⟨by rfl, Or.inl ?hy30⟩) ?rest30
  case hy30 => (intro w' kk ss; obtain ⟨u0, u1⟩ := HC.out _ (hr0.trans kk); go_simp; first | done | with_reducible rfl)
  try simp only [Act.put, List.setIfInBounds_toArray, List.set_cons_zero, List.set_cons_succ]
  refine' Reg.wpG_take (i := 41) (oi := { dst := some 58, op := Op.pick (Operand.tmp 50) (Operand.tmp 57) (Operand.const (Value.bool false)), type := 4, pos := "law.go:58", after := #[{ on := 33, ground := Ground.data }, { on := 40, ground := Ground.data }], guard := none }) (v := _) [42] [] rfl rfl (by kernel_rfl) (by kernel_rfl) (by kernel_rfl) (by kernel_rfl) (by kernel_rfl) (by kernel_rfl) (by kernel_rfl) (fun _ _ _ h => h) (Or.inl ⟨by rfl, Or.inl ?hy31⟩) ?rest31
  case hy31 => (intro w' kk ss; obtain ⟨u0, u1⟩ := HC.out _ (hr0.trans kk); go_simp; first | done | with_reducible rfl)
  try simp only [Act.put, List.setIfInBounds_toArray, List.set_cons_zero, List.set_cons_succ]
  refine' Reg.wpG_take (i := 42) (oi := { dst := some 6, op := Op.assign (Operand.tmp 58), type := 4, pos := "law.go:58", after := #[{ on := 41, ground := Ground.data }, { on := 39, ground := Ground.chain }, { on := 0, ground := Ground.phase }, { on := 1, ground := Ground.phase }, { on := 2, ground := Ground.phase }, { on := 3, ground := Ground.phase }, { on := 4, ground := Ground.phase }, { on := 5, ground := Ground.phase }, { on := 6, ground := Ground.phase }, { on := 7, ground := Ground.phase }, { on := 8, ground := Ground.phase }, { on := 9, ground := Ground.phase }, { on := 10, ground := Ground.phase }, { on := 11, ground := Ground.phase }, { on := 12, ground := Ground.phase }, { on := 13, ground := Ground.phase }, { on := 14, ground := Ground.phase }, { on := 15, ground := Ground.phase }, { on := 16, ground := Ground.phase }, { on := 17, ground := Ground.phase }, { on := 18, ground := Ground.phase }, { on := 19, ground := Ground.phase }, { on := 20, ground := Ground.phase }, { on := 21, ground := Ground.phase }, { on := 22, ground := Ground.phase }, { on := 23, ground := Ground.phase }, { on := 24, ground := Ground.phase }, { on := 25, ground := Ground.phase }, { on := 26, ground := Ground.phase }, { on := 27, ground := Ground.phase }, { on := 28, ground := Ground.phase }, { on := 29, ground := Ground.phase }, { on := 30, ground := Ground.phase }, { on := 31, ground := Ground.phase }, { on := 32, ground := Ground.phase }, { on := 33, ground := Ground.phase }, { on := 34, ground := Ground.phase }, { on := 35, ground := Ground.phase }, { on := 36, ground := Ground.phase }, { on := 37, ground := Ground.phase }, { on := 38, ground := Ground.phase }, { on := 39, ground := Ground.phase }, { on := 40, ground := Ground.phase }, { on := 41, ground := Ground.phase }], guard := none }) (v := _) [] [] rfl rfl (by kernel_rfl) (by kernel_rfl) (by kernel_rfl) (by kernel_rfl) (by kernel_rfl) (by kernel_rfl) (by kernel_rfl) (fun _ _ _ h => h) (Or.inl ⟨by rfl, Or.inl ?hy32⟩) ?rest32
  case hy32 => (intro w' kk ss; obtain ⟨u0, u1⟩ := HC.out _ (hr0.trans kk); go_simp; first | done | with_reducible rfl)
  try simp only [Act.put, List.setIfInBounds_toArray, List.set_cons_zero, List.set_cons_succ]
  refine Reg.wpG_done (by kernel_rfl) (fun wq ke se => ?_) _
  refine NoPanic.normal ?_
  have hr0 := hr0.trans ke
  have h5 := h5.since stR ke
  have h11 := h11.since stR ke
  have h17 := h17.since stR ke
  have h21 := h21.since stR ke
  have h27 := h27.since stR ke
  have h30 := h30.since stR ke
  clear ke
  go_wp2
  go_ret
  exact ⟨by simp, K1.trans hr0⟩

set_option maxRecDepth 100000 in
theorem lifted (os : Os) (started : os.Started) (H : Type) (enc : TypeId × Value → H) :
    ReturnsInHanded {} Try.checked os 5 .any (Rows.setCutsSpec.pre6 enc Try.prog Try.f5 Rows.setCutsRow.domain false) (Rows.setCutsSpec.post enc Try.prog Try.f5 false true false false) := by
  refine returnsInHanded_of_change (C := Try.checked) own started (by kernel_rfl) Try.func5
    (ChangeSpec.witness6 (enc := enc) (C := Try.checked) false ⟨#[], #[.slice none 0 0, .slice none 0 0, .agg #[.int .i64 0, .int .i64 0]], []⟩ 8 (by kernel_rfl) (by kernel_rfl) (by kernel_rfl) (by kernel_rfl)) ?_
  intro W base args ds gs before hval0 hW hcnd _
  have hval : ∀ (j : Nat) t v, Try.f5.params[j]? = some t → args[j]? = some v → Value.okWide Try.prog W .any base t v := hval0
  have hW' := hW
  obtain ⟨p, q, hA0, hV, rfl, hfz, hnd⟩ := hW
  have hA : DataW.TrodAll enc Try.prog W 0 (fun _ => true) true Try.f5.params.toList args.toList ds p := hA0
  rw [Try.params5] at hA hval
  obtain ⟨v0, vs0, d0, ds0, p0, q0, hargs, rfl, rfl, h0, r0⟩ := trodAll_cons hA
  obtain ⟨v1, vs1, d1, ds1, p1, q1, rfl, rfl, rfl, h1, r1⟩ := trodAll_cons r0
  obtain ⟨v2, vs2, d2, ds2, p2, q2, rfl, rfl, rfl, h2, r2⟩ := trodAll_cons r1
  obtain ⟨rfl, rfl, rfl⟩ := trodAll_nil r2
  obtain rfl : args = #[v0, v1, v2] := by cases args; simp_all
  obtain ⟨rfl, rfl⟩ := trodVars_none hV
  obtain ⟨a0, len0, cap0, rfl⟩ := okWide_slice Try.underlying22 (hval 0 22 v0 rfl rfl)
  have k0 := h0
  have lt0 : ∀ x ∈ p0, x.block < W.heap.size := by obtain ⟨m, hm⟩ := k0; exact DataW.trod_lt m _ _ _ hm
  obtain ⟨z0, w0⟩ : ∃ zs, Go.Proofs.Ytdlbfpodgjkimaa.Zs.RangesIn W a0 len0 cap0 zs := by
    obtain ⟨fuel, hf⟩ := h0
    exact Go.Proofs.Ytdlbfpodgjkimaa.Zs.ranges_in Try.underlying22 Try.underlying32 (by kernel_rfl) rfl rfl (by kernel_rfl) (by kernel_rfl) Try.underlying2 Try.underlying2 hf
  obtain ⟨a1, len1, cap1, rfl⟩ := okWide_slice Try.underlying22 (hval 1 22 v1 rfl rfl)
  have k1 := h1
  have lt1 : ∀ x ∈ p1, x.block < W.heap.size := by obtain ⟨m, hm⟩ := k1; exact DataW.trod_lt m _ _ _ hm
  obtain ⟨z1, w1⟩ : ∃ zs, Go.Proofs.Ytdlbfpodgjkimaa.Zs.RangesIn W a1 len1 cap1 zs := by
    obtain ⟨fuel, hf⟩ := h1
    exact Go.Proofs.Ytdlbfpodgjkimaa.Zs.ranges_in Try.underlying22 Try.underlying32 (by kernel_rfl) rfl rfl (by kernel_rfl) (by kernel_rfl) Try.underlying2 Try.underlying2 hf
  obtain ⟨x2, y2, rfl, w2⟩ := Go.Proofs.Ytdlbfpodgjkimaa.Zs.array2_in Try.underlying39 (by kernel_rfl) (by kernel_rfl) Try.underlying2 (hval 2 39 v2 rfl rfl) h2
  have k2 := h2
  have lt2 : ∀ x ∈ p2, x.block < W.heap.size := by obtain ⟨m, hm⟩ := k2; exact DataW.trod_lt m _ _ _ hm
  clear hA0 hval0
  refine (walk a0 len0 cap0 z0 a1 len1 cap1 z1 x2 y2 W w0 w1 w2).mono fun e W' ⟨he, bel⟩ => ?_
  subst he
  exact ⟨_, rfl, _, _, _, [], _, [], hW', trodAll_mk1 (shut_bool Try.underlying4 _), (trodAll_cons_mk (Below.trod laidOut (by kernel_rfl) (of_decide_eq_true (by kernel_rfl)) k0 bel lt0) (trodAll_cons_mk (Below.trod laidOut (by kernel_rfl) (of_decide_eq_true (by kernel_rfl)) k1 bel lt1) (trodAll_cons_mk (Below.trod laidOut (by kernel_rfl) (of_decide_eq_true (by kernel_rfl)) k2 bel lt2) trodAll_mk0))), rfl, bel.frame _, fun h => by cases h⟩

theorem over : Rows.setCutsRow.holds Try.pinned (OpenSpec.ofChange Rows.setCutsSpec) :=
  OpenClaim.holds_of_wide 5 Try.f5 rfl rfl rfl rfl rfl rfl rfl ⟨rfl, rfl, rfl, rfl, rfl⟩ rfl rfl rfl rfl rfl (by kernel_rfl) Try.func5 (by kernel_rfl)
    (of_decide_eq_true (by kernel_rfl)) (by unfold Func.isWrapper; first | (rw [if_pos (by decide +kernel)]; kernel_rfl) | (rw [if_neg (by decide +kernel)]; exact ⟨rfl, rfl⟩))
    (fun os started H enc _ => lifted os started H enc)

/-- THE STATEMENT -/
theorem proved : Rows.SetCutsSaid := over
#print axioms proved
end Go.Proofs.Ytdlbfpodgjkimaa.setCuts
