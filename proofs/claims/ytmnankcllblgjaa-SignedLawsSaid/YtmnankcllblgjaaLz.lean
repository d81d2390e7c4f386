/- The closures of the law of orders: a sum, a product, and whether two numbers are one. Sums and products of numbers of at most 30 digits: they all fit, and hang on no order. -/
import Derived.Test.YtmnankcllblgjaaLx
import Derived.Test.YtmnankcllblgjaaRg
import Derived.Test.YtmnankcllblgjaaSb
import Derived.Deep.RegionHeld3
import Derived.Deep.DeepCutAuto
import Derived.Test.YtmnankcllblgjaaLb
namespace Go.Proofs.Ytmnankcllblgjaa.Law03
open Go.RowKit
set_option linter.unusedVariables false
open Go.Proofs.Ytmnankcllblgjaa.Dig
open Go.Proofs.Ytmnankcllblgjaa.Ref03 (sv RetZ addZ mulZ srightB)
theorem add_at (A0 A1 : Option Addr) (c0 c1 : Nat) (na nb : Bool) (xs ys : List Nat) (w : World) (hx : Row w (.slice A0 xs.length c0) xs) (hy : Row w (.slice A1 ys.length c1) ys) (lx : xs.length ≤ 1000) (ly : ys.length ≤ 1000) {n1 : Bool} {s1 : List Nat} (h : addZ na xs nb ys = ((n1, s1), 0)) :
    Calls Try.prog 22 #[sv na (.slice A0 xs.length c0), sv nb (.slice A1 ys.length c1)] w fun e w' => ∃ A c, e = .returned (.tuple #[sv n1 (.slice A s1.length c), .int .i64 0]) ∧ Row w' (.slice A s1.length c) s1 ∧ Since w w' := by
  have k := Sg03.add_any A0 A1 c0 c1 na nb xs ys w hx hy lx ly
  rwa [h] at k
set_option maxRecDepth 100000 in
set_option maxHeartbeats 8000000 in
theorem addc_any (a0 a1 : Option Addr) (cap0 cap1 : Nat) (b0 b1 : Bool) (d0 d1 : List Nat) (w : World) (hx : Row w (.slice a0 d0.length cap0) d0) (hy : Row w (.slice a1 d1.length cap1) d1) (lx : d0.length ≤ 1000) (ly : d1.length ≤ 1000) {n1 : Bool} {s1 : List Nat} (h : addZ b0 d0 b1 d1 = ((n1, s1), 0)) :
    Calls Try.prog 33 #[sv b0 (.slice a0 d0.length cap0), sv b1 (.slice a1 d1.length cap1)] w fun e w' => ∃ A c, e = .returned (sv n1 (.slice A s1.length c)) ∧ Row w' (.slice A s1.length c) s1 ∧ Since w w' := by
  have R0 := Lib.hid hx
  have R1 := Lib.hid hy
  have M0 := Lib.hid lx
  have M1 := Lib.hid ly
  have E1 := Lib.hid h
  clear hx hy lx ly h
  obtain ⟨W0, hW0⟩ : ∃ W0, W0 = ((w.alloc (.cells #[.bool b0, .slice a0 d0.length cap0] 30)).alloc (.cells #[.bool b1, .slice a1 d1.length cap1] 30)).alloc (.cells #[.bool false, .slice none 0 0] 30) := ⟨_, rfl⟩
  have HW := Lib.hid hW0
  have hold : Hid (∀ W : World, Since W0 W → (W.cell? ⟨w.heap.size, 0, none⟩ = some (.bool b0) ∧ W.cell? ⟨w.heap.size, 1, none⟩ = some (.slice a0 d0.length cap0) ∧ W.cell? ⟨w.heap.size + 1, 0, none⟩ = some (.bool b1) ∧ W.cell? ⟨w.heap.size + 1, 1, none⟩ = some (.slice a1 d1.length cap1)) ∧ Since w W) := fun W h => ⟨Ref03.hold2of ((since_alloc _ _).trans (hW0 ▸ h)), by rw [hW0] at h; exact ((((Since.refl w).alloc _).alloc _).alloc _).trans h⟩
  have hS0 : Since w W0 := by rw [hW0]; exact (((Since.refl w).alloc _).alloc _).alloc _
  have ZR : Law03.Zero W0 (w.heap.size + 1 + 1) := by rw [hW0]; have k := Law03.Zero.fresh ((w.alloc (.cells #[.bool b0, .slice a0 d0.length cap0] 30)).alloc (.cells #[.bool b1, .slice a1 d1.length cap1] 30)) 30; simpa using k
  clear hW0
  have hZ := Since.refl W0
  go_enter Try.func33, Try.ntmps33
  go_wp2_with fail
  rw [← HW.out]
  go_wp2_with (first
    | (go_at_call 22; (with_reducible refine (add_at a0 a1 cap0 cap1 b0 b1 d0 d1 _ (R0.out.since hS0) (R1.out.since hS0) M0.out M1.out E1.out).mono ?_); rintro e y ⟨A1, q1, rfl, r1, hx⟩; have ZR := ZR.since hx; have hl := ZR.lt; obtain ⟨za, zb, zc, zd⟩ := ZR; have hh := hS0.trans hx; have hsz := hS0.size))
  refine bodyPost_ret (v := sv n1 (.slice A1 s1.length q1)) ?_ rfl ?_
  · have hne := Nat.ne_of_lt hl
    have hne' := Ne.symm hne
    have g0 : (((y.setCell ⟨w.heap.size + 1 + 1, 0, none⟩ (.bool n1)).setCell ⟨w.heap.size + 1 + 1, 1, none⟩ (.slice A1 s1.length q1)).alloc (.cells #[.bool n1, .slice A1 s1.length q1] 30)).cell? ⟨w.heap.size + 1 + 1, 0, none⟩ = some (.bool n1) := by go_simp
    have g1 : (((y.setCell ⟨w.heap.size + 1 + 1, 0, none⟩ (.bool n1)).setCell ⟨w.heap.size + 1 + 1, 1, none⟩ (.slice A1 s1.length q1)).alloc (.cells #[.bool n1, .slice A1 s1.length q1] 30)).cell? ⟨w.heap.size + 1 + 1, 1, none⟩ = some (.slice A1 s1.length q1) := by go_simp
    simp [results, Try.results33, go_sem, g0, g1]
  · refine ⟨A1, q1, rfl, ?_, ?_⟩
    · repeat (first | exact r1 | refine Row.since ?_ (since_alloc _ _) | (refine Law03.row_put0 ?_ ?_; rotate_left; (focus (go_simp; done))) | (refine Law03.row_put1 ?_ ?_; rotate_left; (focus (go_simp; done))))
    · repeat (first | assumption | exact Since.refl _ | refine Since.alloc ?_ _ | (refine Since.set ?_ ?_ _; rotate_left; first | exact Nat.le_refl _ | (simp; done) | (simp <;> omega)))
theorem mul_at (A0 A1 : Option Addr) (c0 c1 : Nat) (na nb : Bool) (xs ys : List Nat) (w : World) (hx : Row w (.slice A0 xs.length c0) xs) (hy : Row w (.slice A1 ys.length c1) ys) (lx : xs.length ≤ 1000) (ly : ys.length ≤ 1000) {n1 : Bool} {s1 : List Nat} (h : mulZ na xs nb ys = ((n1, s1), 0)) :
    Calls Try.prog 24 #[sv na (.slice A0 xs.length c0), sv nb (.slice A1 ys.length c1)] w fun e w' => ∃ A c, e = .returned (.tuple #[sv n1 (.slice A s1.length c), .int .i64 0]) ∧ Row w' (.slice A s1.length c) s1 ∧ Since w w' := by
  have k := Sg03.mul_any A0 A1 c0 c1 na nb xs ys w hx hy lx ly
  rwa [h] at k
set_option maxRecDepth 100000 in
set_option maxHeartbeats 8000000 in
theorem mulc_any (a0 a1 : Option Addr) (cap0 cap1 : Nat) (b0 b1 : Bool) (d0 d1 : List Nat) (w : World) (hx : Row w (.slice a0 d0.length cap0) d0) (hy : Row w (.slice a1 d1.length cap1) d1) (lx : d0.length ≤ 1000) (ly : d1.length ≤ 1000) {n1 : Bool} {s1 : List Nat} (h : mulZ b0 d0 b1 d1 = ((n1, s1), 0)) :
    Calls Try.prog 34 #[sv b0 (.slice a0 d0.length cap0), sv b1 (.slice a1 d1.length cap1)] w fun e w' => ∃ A c, e = .returned (sv n1 (.slice A s1.length c)) ∧ Row w' (.slice A s1.length c) s1 ∧ Since w w' := by
  have R0 := Lib.hid hx
  have R1 := Lib.hid hy
  have M0 := Lib.hid lx
  have M1 := Lib.hid ly
  have E1 := Lib.hid h
  clear hx hy lx ly h
  obtain ⟨W0, hW0⟩ : ∃ W0, W0 = ((w.alloc (.cells #[.bool b0, .slice a0 d0.length cap0] 30)).alloc (.cells #[.bool b1, .slice a1 d1.length cap1] 30)).alloc (.cells #[.bool false, .slice none 0 0] 30) := ⟨_, rfl⟩
  have HW := Lib.hid hW0
  have hold : Hid (∀ W : World, Since W0 W → (W.cell? ⟨w.heap.size, 0, none⟩ = some (.bool b0) ∧ W.cell? ⟨w.heap.size, 1, none⟩ = some (.slice a0 d0.length cap0) ∧ W.cell? ⟨w.heap.size + 1, 0, none⟩ = some (.bool b1) ∧ W.cell? ⟨w.heap.size + 1, 1, none⟩ = some (.slice a1 d1.length cap1)) ∧ Since w W) := fun W h => ⟨Ref03.hold2of ((since_alloc _ _).trans (hW0 ▸ h)), by rw [hW0] at h; exact ((((Since.refl w).alloc _).alloc _).alloc _).trans h⟩
  have hS0 : Since w W0 := by rw [hW0]; exact (((Since.refl w).alloc _).alloc _).alloc _
  have ZR : Law03.Zero W0 (w.heap.size + 1 + 1) := by rw [hW0]; have k := Law03.Zero.fresh ((w.alloc (.cells #[.bool b0, .slice a0 d0.length cap0] 30)).alloc (.cells #[.bool b1, .slice a1 d1.length cap1] 30)) 30; simpa using k
  clear hW0
  have hZ := Since.refl W0
  go_enter Try.func34, Try.ntmps34
  go_wp2_with fail
  rw [← HW.out]
  go_wp2_with (first
    | (go_at_call 24; (with_reducible refine (mul_at a0 a1 cap0 cap1 b0 b1 d0 d1 _ (R0.out.since hS0) (R1.out.since hS0) M0.out M1.out E1.out).mono ?_); rintro e y ⟨A1, q1, rfl, r1, hx⟩; have ZR := ZR.since hx; have hl := ZR.lt; obtain ⟨za, zb, zc, zd⟩ := ZR; have hh := hS0.trans hx; have hsz := hS0.size))
  refine bodyPost_ret (v := sv n1 (.slice A1 s1.length q1)) ?_ rfl ?_
  · have hne := Nat.ne_of_lt hl
    have hne' := Ne.symm hne
    have g0 : (((y.setCell ⟨w.heap.size + 1 + 1, 0, none⟩ (.bool n1)).setCell ⟨w.heap.size + 1 + 1, 1, none⟩ (.slice A1 s1.length q1)).alloc (.cells #[.bool n1, .slice A1 s1.length q1] 30)).cell? ⟨w.heap.size + 1 + 1, 0, none⟩ = some (.bool n1) := by go_simp
    have g1 : (((y.setCell ⟨w.heap.size + 1 + 1, 0, none⟩ (.bool n1)).setCell ⟨w.heap.size + 1 + 1, 1, none⟩ (.slice A1 s1.length q1)).alloc (.cells #[.bool n1, .slice A1 s1.length q1] 30)).cell? ⟨w.heap.size + 1 + 1, 1, none⟩ = some (.slice A1 s1.length q1) := by go_simp
    simp [results, Try.results34, go_sem, g0, g1]
  · refine ⟨A1, q1, rfl, ?_, ?_⟩
    · repeat (first | exact r1 | refine Row.since ?_ (since_alloc _ _) | (refine Law03.row_put0 ?_ ?_; rotate_left; (focus (go_simp; done))) | (refine Law03.row_put1 ?_ ?_; rotate_left; (focus (go_simp; done))))
    · repeat (first | assumption | exact Since.refl _ | refine Since.alloc ?_ _ | (refine Since.set ?_ ?_ _; rotate_left; first | exact Nat.le_refl _ | (simp; done) | (simp <;> omega)))
set_option maxRecDepth 100000 in
set_option maxHeartbeats 8000000 in
theorem samec_any (a0 a1 : Option Addr) (cap0 cap1 : Nat) (b : Bool) (d : List Nat) (w : World) (hx : Row w (.slice a0 d.length cap0) d) (hy : Row w (.slice a1 d.length cap1) d) (lx : d.length ≤ 1000) (hr : srightB b d = true) :
    Calls Try.prog 35 #[sv b (.slice a0 d.length cap0), sv b (.slice a1 d.length cap1)] w fun e w' => e = .returned (.bool true) ∧ Since w w' := by
  have R0 := Lib.hid hx
  have R1 := Lib.hid hy
  have M := Lib.hid (show d.length ≤ 10000 by omega)
  have HR := Lib.hid hr
  clear hx hy lx hr
  obtain ⟨W0, hW0⟩ : ∃ W0, W0 = (w.alloc (.cells #[.bool b, .slice a0 d.length cap0] 30)).alloc (.cells #[.bool b, .slice a1 d.length cap1] 30) := ⟨_, rfl⟩
  have HW := Lib.hid hW0
  have hall : Hid (∀ W : World, Since W0 W → W.cell? ⟨w.heap.size, 0, none⟩ = some (.bool b) ∧ W.cell? ⟨w.heap.size, 1, none⟩ = some (.slice a0 d.length cap0) ∧ W.cell? ⟨w.heap.size + 1, 0, none⟩ = some (.bool b) ∧ W.cell? ⟨w.heap.size + 1, 1, none⟩ = some (.slice a1 d.length cap1)) := fun W h => Ref03.hold2of (hW0 ▸ h)
  have hS0 : Since w W0 := by rw [hW0]; exact ((Since.refl w).alloc _).alloc _
  clear hW0
  go_enter Try.func35, Try.ntmps35
  go_upto_region 1 with fail
  rw [← HW.out]
  refine wp_region_noPanic ?_
  refine Reg.wp_region_G (S := fun W => W.cell? ⟨w.heap.size, 0, none⟩ = some (.bool b) ∧ W.cell? ⟨w.heap.size, 1, none⟩ = some (.slice a0 d.length cap0) ∧ W.cell? ⟨w.heap.size + 1, 0, none⟩ = some (.bool b) ∧ W.cell? ⟨w.heap.size + 1, 1, none⟩ = some (.slice a1 d.length cap1)) (fun j => [].contains j) (by kernel_rfl) ?_ ?_
  · exact hall.out _ (Since.drew (Since.refl W0))
  refine' Reg.wpG_take (i := 0) (oi := { dst := some 5, op := Op.load 30 (Operand.tmp 2), type := 30, pos := "law.go:133", after := #[], guard := none }) (v := _) [1, 3, 4, 5, 6, 7, 8, 9] [] rfl rfl (by kernel_rfl) (by kernel_rfl) (by kernel_rfl) (by kernel_rfl) (by kernel_rfl) (by kernel_rfl) (by kernel_rfl) (fun _ _ _ h => h) (Or.inl ⟨by rfl, Or.inl ?hy1⟩) ?rest1
  case hy1 => (intro w' kk ss; (try dsimp only at ss); go_simp; first | done | with_reducible rfl)
  try simp only [Act.put, List.setIfInBounds_toArray, List.set_cons_zero, List.set_cons_succ]
  refine Reg.wpG_take (i := 1) (oi := { dst := some 6, op := Op.call { callee := Callee.value (Operand.func 19), args := #[Operand.tmp 5], argTypes := #[30] }, type := 24, pos := "law.go:133", after := #[{ on := 0, ground := Ground.data }], guard := none }) (v := sv b (.slice a0 d.length cap0)) [3, 4, 5, 6, 7, 8, 9] [] rfl rfl (by kernel_rfl) (by kernel_rfl) (by kernel_rfl) (by kernel_rfl) (by kernel_rfl) (by kernel_rfl) (by kernel_rfl) (fun _ _ _ h => h) (Or.inl ⟨by rfl, Or.inr ⟨19, #[sv b (.slice a0 d.length cap0)], fun w' kk ss => ⟨?_, ?_⟩⟩⟩) ?_
  · (try dsimp only at ss); go_simp
  · exact (Law03.ours_any a0 d.length cap0 b w').mono fun e w'' h => ⟨h.1, h.2, hall.out _ ((Since.drew (Since.refl W0)).trans (kk.trans h.2))⟩
  try simp only [Act.put, List.setIfInBounds_toArray, List.set_cons_zero, List.set_cons_succ]
  refine' Reg.wpG_take (i := 2) (oi := { dst := some 7, op := Op.load 30 (Operand.tmp 3), type := 30, pos := "law.go:133", after := #[], guard := none }) (v := _) [3, 4, 5, 6, 7, 8, 9] [] rfl rfl (by kernel_rfl) (by kernel_rfl) (by kernel_rfl) (by kernel_rfl) (by kernel_rfl) (by kernel_rfl) (by kernel_rfl) (fun _ _ _ h => h) (Or.inl ⟨by rfl, Or.inl ?hy2⟩) ?rest2
  case hy2 => (intro w' kk ss; (try dsimp only at ss); go_simp; first | done | with_reducible rfl)
  try simp only [Act.put, List.setIfInBounds_toArray, List.set_cons_zero, List.set_cons_succ]
  refine Reg.wpG_take (i := 3) (oi := { dst := some 8, op := Op.call { callee := Callee.value (Operand.func 19), args := #[Operand.tmp 7], argTypes := #[30] }, type := 24, pos := "law.go:133", after := #[{ on := 2, ground := Ground.data }, { on := 1, ground := Ground.chain }], guard := none }) (v := sv b (.slice a1 d.length cap1)) [4, 5, 6, 7, 8, 9] [] rfl rfl (by kernel_rfl) (by kernel_rfl) (by kernel_rfl) (by kernel_rfl) (by kernel_rfl) (by kernel_rfl) (by kernel_rfl) (fun _ _ _ h => h) (Or.inl ⟨by rfl, Or.inr ⟨19, #[sv b (.slice a1 d.length cap1)], fun w' kk ss => ⟨?_, ?_⟩⟩⟩) ?_
  · (try dsimp only at ss); go_simp
  · exact (Law03.ours_any a1 d.length cap1 b w').mono fun e w'' h => ⟨h.1, h.2, hall.out _ ((Since.drew (Since.refl W0)).trans (kk.trans h.2))⟩
  try simp only [Act.put, List.setIfInBounds_toArray, List.set_cons_zero, List.set_cons_succ]
  refine Reg.wpG_take (i := 4) (oi := { dst := some 9, op := Op.call { callee := Callee.value (Operand.func 18), args := #[Operand.tmp 6, Operand.tmp 8], argTypes := #[24, 24] }, type := 4, pos := "law.go:133", after := #[{ on := 1, ground := Ground.data }, { on := 3, ground := Ground.data }, { on := 3, ground := Ground.chain }], guard := none }) (v := .bool true) [5, 6, 7, 8, 9] [] rfl rfl (by kernel_rfl) (by kernel_rfl) (by kernel_rfl) (by kernel_rfl) (by kernel_rfl) (by kernel_rfl) (by kernel_rfl) (fun _ _ _ h => h) (Or.inl ⟨by rfl, Or.inr ⟨18, #[sv b (.slice a0 d.length cap0), sv b (.slice a1 d.length cap1)], fun w' kk ss => ⟨?_, ?_⟩⟩⟩) ?_
  · (try dsimp only at ss); go_simp
  · exact (Law03.same_self a0 a1 cap0 cap1 b d w' (R0.out.since (hS0.trans ((Since.drew (Since.refl W0)).trans kk))) (R1.out.since (hS0.trans ((Since.drew (Since.refl W0)).trans kk))) M.out).mono fun e w'' h => ⟨h.1, h.2, hall.out _ ((Since.drew (Since.refl W0)).trans (kk.trans h.2))⟩
  try simp only [Act.put, List.setIfInBounds_toArray, List.set_cons_zero, List.set_cons_succ]
  refine' Reg.wpG_take (i := 5) (oi := { dst := some 10, op := Op.move (Operand.tmp 9), type := 4, pos := "law.go:133", after := #[{ on := 4, ground := Ground.data }, { on := 4, ground := Ground.chain }], guard := none }) (v := _) [6, 7, 8, 9] [] rfl rfl (by kernel_rfl) (by kernel_rfl) (by kernel_rfl) (by kernel_rfl) (by kernel_rfl) (by kernel_rfl) (by kernel_rfl) (fun _ _ _ h => h) (Or.inl ⟨by rfl, Or.inl ?hy3⟩) ?rest3
  case hy3 => (intro w' kk ss; (try dsimp only at ss); go_simp; first | done | with_reducible rfl)
  try simp only [Act.put, List.setIfInBounds_toArray, List.set_cons_zero, List.set_cons_succ]
  refine' Reg.wpG_take (i := 6) (oi := { dst := some 11, op := Op.load 30 (Operand.tmp 2), type := 30, pos := "law.go:133", after := #[{ on := 5, ground := Ground.guard }], guard := some (5, true) }) (v := _) [7, 8, 9] [] rfl rfl (by kernel_rfl) (by kernel_rfl) (by kernel_rfl) (by kernel_rfl) (by kernel_rfl) (by kernel_rfl) (by kernel_rfl) (fun _ _ _ h => h) (Or.inl ⟨by rfl, Or.inl ?hy4⟩) ?rest4
  case hy4 => (intro w' kk ss; (try dsimp only at ss); go_simp; first | done | with_reducible rfl)
  try simp only [Act.put, List.setIfInBounds_toArray, List.set_cons_zero, List.set_cons_succ]
  refine Reg.wpG_take (i := 7) (oi := { dst := some 12, op := Op.call { callee := Callee.value (Operand.func 16), args := #[Operand.tmp 11], argTypes := #[30] }, type := 4, pos := "law.go:133", after := #[{ on := 6, ground := Ground.data }, { on := 5, ground := Ground.chain }, { on := 5, ground := Ground.guard }], guard := some (5, true) }) (v := .bool true) [8, 9] [] rfl rfl (by kernel_rfl) (by kernel_rfl) (by kernel_rfl) (by kernel_rfl) (by kernel_rfl) (by kernel_rfl) (by kernel_rfl) (fun _ _ _ h => h) (Or.inl ⟨by rfl, Or.inr ⟨16, #[sv b (.slice a0 d.length cap0)], fun w' kk ss => ⟨?_, ?_⟩⟩⟩) ?_
  · (try dsimp only at ss); go_simp
  · exact (by have k := Sg03.right_any (.slice a0 d.length cap0) b d w' (R0.out.since (hS0.trans ((Since.drew (Since.refl W0)).trans kk))) M.out; rw [HR.out] at k; exact k.mono fun e w'' h => ⟨h.1, h.2, hall.out _ ((Since.drew (Since.refl W0)).trans (kk.trans h.2))⟩)
  try simp only [Act.put, List.setIfInBounds_toArray, List.set_cons_zero, List.set_cons_succ]
  refine' Reg.wpG_take (i := 8) (oi := { dst := some 13, op := Op.pick (Operand.tmp 10) (Operand.tmp 12) (Operand.const (Value.bool false)), type := 4, pos := "law.go:133", after := #[{ on := 5, ground := Ground.data }, { on := 7, ground := Ground.data }], guard := none }) (v := _) [9] [] rfl rfl (by kernel_rfl) (by kernel_rfl) (by kernel_rfl) (by kernel_rfl) (by kernel_rfl) (by kernel_rfl) (by kernel_rfl) (fun _ _ _ h => h) (Or.inl ⟨by rfl, Or.inl ?hy5⟩) ?rest5
  case hy5 => (intro w' kk ss; (try dsimp only at ss); go_simp; first | done | with_reducible rfl)
  try simp only [Act.put, List.setIfInBounds_toArray, List.set_cons_zero, List.set_cons_succ]
  refine' Reg.wpG_take (i := 9) (oi := { dst := some 4, op := Op.assign (Operand.tmp 13), type := 4, pos := "law.go:133", after := #[{ on := 8, ground := Ground.data }, { on := 7, ground := Ground.chain }, { on := 0, ground := Ground.phase }, { on := 1, ground := Ground.phase }, { on := 2, ground := Ground.phase }, { on := 3, ground := Ground.phase }, { on := 4, ground := Ground.phase }, { on := 5, ground := Ground.phase }, { on := 6, ground := Ground.phase }, { on := 7, ground := Ground.phase }, { on := 8, ground := Ground.phase }], guard := none }) (v := _) [] [] rfl rfl (by kernel_rfl) (by kernel_rfl) (by kernel_rfl) (by kernel_rfl) (by kernel_rfl) (by kernel_rfl) (by kernel_rfl) (fun _ _ _ h => h) (Or.inl ⟨by rfl, Or.inl ?hy6⟩) ?rest6
  case hy6 => (intro w' kk ss; (try dsimp only at ss); go_simp; first | done | with_reducible rfl)
  try simp only [Act.put, List.setIfInBounds_toArray, List.set_cons_zero, List.set_cons_succ]
  refine Reg.wpG_done (by kernel_rfl) (fun we ke se => ?_) _
  refine NoPanic.normal ?_
  go_wp2_with fail
  go_ret
  exact ⟨rfl, hS0.trans ((Since.drew (Since.refl W0)).trans ke)⟩
end Go.Proofs.Ytmnankcllblgjaa.Law03

namespace Go.Proofs.Ytmnankcllblgjaa.Ref03
set_option linter.unusedVariables false
open Go.Proofs.Ytmnankcllblgjaa.Dig Go.Proofs.Ytmnankcllblgjaa.Bk

def Und (v : Int) (k : Nat) : Prop := v.natAbs < 4294967296 ^ k
theorem Und.len {v : Int} {k : Nat} (h : Und v k) (hk : k ≤ 255) : (mag v).length ≤ 256 := by
  have := len_of (n := v.natAbs) (X := v.natAbs) (Y := 0) (k := k) h (Nat.pow_pos (by omega)) (by omega)
  unfold mag; omega
theorem Und.add {u v : Int} {k : Nat} (h : Und u k) (h' : Und v k) : Und (u + v) (k + 1) := by
  have := sum_lt h h'
  have h2 := Int.natAbs_add_le u v
  unfold Und; omega
theorem Und.mul {u v : Int} {i j : Nat} (h : Und u i) (h' : Und v j) : Und (u * v) (i + j) := by
  unfold Und; rw [Int.natAbs_mul, Nat.pow_add]
  exact Nat.mul_lt_mul'' h h'
theorem Und.up {u : Int} {i j : Nat} (h : Und u i) (hij : i ≤ j) : Und u j := Nat.lt_of_lt_of_le h (Nat.pow_le_pow_right (by omega) hij)
theorem Und.neg {u : Int} {i : Nat} (h : Und u i) : Und (-u) i := by unfold Und; rw [Int.natAbs_neg]; exact h
theorem addN {u v : Int} {k : Nat} (h : Und u k) (h' : Und v k) (hk : k ≤ 254) : addZ (ngB u) (mag u) (ngB v) (mag v) = ((ngB (u + v), mag (u + v)), 0) := by
  unfold addZ
  rw [if_pos ⟨right_mag (h.len (by omega)), right_mag (h'.len (by omega))⟩, sval_mag, sval_mag]
  unfold fitZ
  rw [if_pos ((h.add h').len (by omega))]
theorem mulN {u v : Int} {i j : Nat} (h : Und u i) (h' : Und v j) (hk : i + j ≤ 255) : mulZ (ngB u) (mag u) (ngB v) (mag v) = ((ngB (u * v), mag (u * v)), 0) := by
  unfold mulZ
  rw [if_pos ⟨right_mag (h.len (by omega)), right_mag (h'.len (by omega))⟩, sval_mag, sval_mag]
  unfold fitZ
  rw [if_pos ((h.mul h').len (by omega))]
/-- a right number of at most 30 digits is the sign and the digits of an integer -/
theorem int_of {b : Bool} {d : List Nat} (dx : IsDig d) (r : srightB b d = true) (l : d.length ≤ 30) : ∃ v : Int, b = ngB v ∧ d = mag v ∧ Und v 30 := by
  have o := of_right dx r
  refine ⟨sval b d, o.1.symm, o.2.symm, ?_⟩
  unfold Und; rw [sval_abs]
  exact Nat.lt_of_lt_of_le (num_lt dx) (Nat.pow_le_pow_right (by omega) l)
def Laws (b0 b1 b2 : Bool) (d0 d1 d2 : List Nat) (n : Nat → Bool) (s : Nat → List Nat) : Prop :=
  (negZ b0 d0 = ((n 1, s 1), 0) ∧ addZ b0 d0 (n 1) (s 1) = ((false, []), 0) ∧ addZ b0 d0 b1 d1 = ((n 2, s 2), 0) ∧ addZ b1 d1 b0 d0 = ((n 2, s 2), 0) ∧
   mulZ b0 d0 b1 d1 = ((n 3, s 3), 0) ∧ mulZ b1 d1 b0 d0 = ((n 3, s 3), 0)) ∧
  (addZ (n 2) (s 2) b2 d2 = ((n 4, s 4), 0) ∧ addZ b1 d1 b2 d2 = ((n 5, s 5), 0) ∧ addZ b0 d0 (n 5) (s 5) = ((n 4, s 4), 0) ∧
   mulZ (n 3) (s 3) b2 d2 = ((n 6, s 6), 0) ∧ mulZ b1 d1 b2 d2 = ((n 7, s 7), 0) ∧ mulZ b0 d0 (n 7) (s 7) = ((n 6, s 6), 0)) ∧
  (mulZ (n 2) (s 2) b2 d2 = ((n 8, s 8), 0) ∧ mulZ b0 d0 b2 d2 = ((n 9, s 9), 0) ∧ addZ (n 9) (s 9) (n 7) (s 7) = ((n 8, s 8), 0)) ∧
  (∀ i, (s i).length ≤ 256) ∧ (∀ i, srightB (n i) (s i) = true)
theorem laws_nums {b0 b1 b2 : Bool} {d0 d1 d2 : List Nat} (x0 : IsDig d0) (x1 : IsDig d1) (x2 : IsDig d2) (r0 : srightB b0 d0 = true) (r1 : srightB b1 d1 = true) (r2 : srightB b2 d2 = true) (l0 : d0.length ≤ 30) (l1 : d1.length ≤ 30) (l2 : d2.length ≤ 30) : ∃ n s, Laws b0 b1 b2 d0 d1 d2 n s := by
  obtain ⟨X, rfl, rfl, hX⟩ := int_of x0 r0 l0
  obtain ⟨Y, rfl, rfl, hY⟩ := int_of x1 r1 l1
  obtain ⟨Z, rfl, rfl, hZ⟩ := int_of x2 r2 l2
  obtain ⟨V, hV⟩ : ∃ V : Nat → Int, V = fun i => match i with | 1 => -X | 2 => X + Y | 3 => X * Y | 4 => X + Y + Z | 5 => Y + Z | 6 => X * Y * Z | 7 => Y * Z | 8 => (X + Y) * Z | 9 => X * Z | _ => 0 := ⟨_, rfl⟩
  have v1 : V 1 = -X := by subst hV; rfl
  have v2 : V 2 = X + Y := by subst hV; rfl
  have v3 : V 3 = X * Y := by subst hV; rfl
  have v4 : V 4 = X + Y + Z := by subst hV; rfl
  have v5 : V 5 = Y + Z := by subst hV; rfl
  have v6 : V 6 = X * Y * Z := by subst hV; rfl
  have v7 : V 7 = Y * Z := by subst hV; rfl
  have v8 : V 8 = (X + Y) * Z := by subst hV; rfl
  have v9 : V 9 = X * Z := by subst hV; rfl
  have hU : ∀ i, Und (V i) 100 := by
    intro i; rw [hV]; dsimp only
    have z : Und 0 100 := by unfold Und; exact Nat.pow_pos (by omega)
    have a := hX.add hY
    split
    · exact hX.neg.up (by omega)
    · exact a.up (by omega)
    · exact (hX.mul hY).up (by omega)
    · exact (a.add (hZ.up (by omega))).up (by omega)
    · exact (hY.add hZ).up (by omega)
    · exact ((hX.mul hY).mul hZ).up (by omega)
    · exact (hY.mul hZ).up (by omega)
    · exact (a.mul hZ).up (by omega)
    · exact (hX.mul hZ).up (by omega)
    · exact z
  clear hV
  have hX' := hX.up (j := 100) (by omega)
  have hY' := hY.up (j := 100) (by omega)
  have hZ' := hZ.up (j := 100) (by omega)
  refine ⟨fun i => ngB (V i), fun i => mag (V i), ⟨?_, ?_, ?_, ?_, ?_, ?_⟩, ⟨?_, ?_, ?_, ?_, ?_, ?_⟩, ⟨?_, ?_, ?_⟩, fun i => (hU i).len (by omega), fun i => right_mag ((hU i).len (by omega))⟩
  · show negZ _ _ = ((ngB (V 1), mag (V 1)), 0)
    unfold negZ
    rw [if_pos r0, sval_mag, v1]
  · show addZ _ _ (ngB (V 1)) (mag (V 1)) = _
    rw [addN hX' (hU 1) (by omega), v1, show X + -X = 0 by omega]
    rfl
  · show addZ _ _ _ _ = ((ngB (V 2), mag (V 2)), 0)
    rw [addN hX' hY' (by omega), v2]
  · show addZ _ _ _ _ = ((ngB (V 2), mag (V 2)), 0)
    rw [addN hY' hX' (by omega), v2, Int.add_comm]
  · show mulZ _ _ _ _ = ((ngB (V 3), mag (V 3)), 0)
    rw [mulN hX' hY' (by omega), v3]
  · show mulZ _ _ _ _ = ((ngB (V 3), mag (V 3)), 0)
    rw [mulN hY' hX' (by omega), v3, Int.mul_comm]
  · show addZ (ngB (V 2)) (mag (V 2)) _ _ = ((ngB (V 4), mag (V 4)), 0)
    rw [addN (hU 2) hZ' (by omega), v2, v4]
  · show addZ _ _ _ _ = ((ngB (V 5), mag (V 5)), 0)
    rw [addN hY' hZ' (by omega), v5]
  · show addZ _ _ (ngB (V 5)) (mag (V 5)) = ((ngB (V 4), mag (V 4)), 0)
    rw [addN hX' (hU 5) (by omega), v5, v4, Int.add_assoc]
  · show mulZ (ngB (V 3)) (mag (V 3)) _ _ = ((ngB (V 6), mag (V 6)), 0)
    rw [mulN (hU 3) hZ' (by omega), v3, v6]
  · show mulZ _ _ _ _ = ((ngB (V 7), mag (V 7)), 0)
    rw [mulN hY' hZ' (by omega), v7]
  · show mulZ _ _ (ngB (V 7)) (mag (V 7)) = ((ngB (V 6), mag (V 6)), 0)
    rw [mulN hX' (hU 7) (by omega), v7, v6, Int.mul_assoc]
  · show mulZ (ngB (V 2)) (mag (V 2)) _ _ = ((ngB (V 8), mag (V 8)), 0)
    rw [mulN (hU 2) hZ' (by omega), v2, v8]
  · show mulZ _ _ _ _ = ((ngB (V 9), mag (V 9)), 0)
    rw [mulN hX' hZ' (by omega), v9]
  · show addZ (ngB (V 9)) (mag (V 9)) (ngB (V 7)) (mag (V 7)) = ((ngB (V 8), mag (V 8)), 0)
    rw [addN (hU 9) (hU 7) (by omega), v9, v7, v8, Int.add_mul]
end Go.Proofs.Ytmnankcllblgjaa.Ref03
