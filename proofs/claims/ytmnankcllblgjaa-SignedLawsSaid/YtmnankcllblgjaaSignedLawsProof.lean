/-
  For all numbers a, b and c of layer 3: the law SignedLaws returns true (where each may be, and has at most 30 digits: sums and products hang on no order, and on none in which three are taken; a product of a sum is the sum of the products; a number and its opposite are nought together) and leaves them as they were. No condition.
-/
import Derived.Test.YtmnankcllblgjaaRows
import Derived.WalkKit
import Derived.ProofKit
import Derived.OpenShut
import Derived.ShutString
import Derived.ChangeOld
import Derived.Below
import Derived.Lib.SmallJoins
import Derived.Test.YtmnankcllblgjaaLw
import Derived.Test.YtmnankcllblgjaaWd
import Derived.Test.YtmnankcllblgjaaSd
import Derived.Test.YtmnankcllblgjaaLx
import Derived.Test.YtmnankcllblgjaaLz
import Derived.Test.YtmnankcllblgjaaRg
import Derived.Deep.RegionHeld3
import Derived.Deep.DeepCutAuto
namespace Go.Proofs.Ytmnankcllblgjaa.signedLaws
open Go.Joins
open Go.ChangeShapes Go.WideShapes Go.ChangeAt Go.RowKit
open Go.ChangeMaps (open_string shut_string)
open Go.Proofs.Ytmnankcllblgjaa.Dig
open Go.Proofs.Ytmnankcllblgjaa.Ref03 (sv RetZ addZ mulZ negZ srightB)
set_option linter.unusedVariables false
set_option linter.unusedSimpArgs false

theorem cells24 : Try.prog.cellsOf 24 = 2 := by kernel_rfl
theorem own : ownKnob Try.prog.godebug = none := by kernel_rfl
theorem laidOut : laidOutB Try.prog = true := by kernel_rfl

/-- WHAT THE WALK IS TOLD OF A SLICE OF INTEGERS THAT CAME IN: it is nil; or it leads to a row of 'cap' cells, the numbers 'zs' (the first 'len' are its elements, the rest its spare room), each fitting its kind. -/
def IsRow (k : IntKind) (w : World) (a : Option Addr) (len cap : Nat) (zs : List Int) : Prop :=
  (a = none ∧ len = 0 ∧ cap = 0 ∧ zs = []) ∨
  ∃ x, a = some x ∧ len ≤ cap ∧ cap ≤ maxLen ∧ zs.length = cap ∧ (∀ i, i < zs.length → w.cell? (x.add i) = some (.int k (zs.getD i 0))) ∧ ∀ n ∈ zs, (Lit.int k n).wf = true

theorem right_three' (A0 A1 A2 : Option Addr) (c0 c1 c2 : Nat) (n0 n1 n2 : Bool) (d0 d1 d2 : List Nat) (w : World) (h0 : Row w (.slice A0 d0.length c0) d0) (h1 : Row w (.slice A1 d1.length c1) d1) (h2 : Row w (.slice A2 d2.length c2) d2) (l0 : d0.length ≤ 1000) (l1 : d1.length ≤ 1000) (l2 : d2.length ≤ 1000) :
    Calls Try.prog 32 #[.slice (some ⟨w.heap.size, 0, none⟩) 3 3] (w.alloc (.cells #[.bool n0, .slice A0 d0.length c0, .bool n1, .slice A1 d1.length c1, .bool n2, .slice A2 d2.length c2] 24)) fun e w' => e = .returned (.bool (srightB n0 d0 && (srightB n1 d1 && srightB n2 d2))) ∧ Since w w' :=
  Law03.right_three w _ ⟨n0, A0, c0, d0⟩ ⟨n1, A1, c1, d1⟩ ⟨n2, A2, c2, d2⟩ h0 h1 h2 (by show d0.length ≤ 10000; omega) (by show d1.length ≤ 10000; omega) (by show d2.length ≤ 10000; omega)
theorem neg_at (A0 : Option Addr) (c0 : Nat) (na : Bool) (xs : List Nat) (w : World) (hx : Row w (.slice A0 xs.length c0) xs) (lx : xs.length ≤ 1000) {n1 : Bool} {s1 : List Nat} (h : negZ na xs = ((n1, s1), 0)) :
    Calls Try.prog 26 #[sv na (.slice A0 xs.length c0)] w fun e w' => ∃ A c, e = .returned (.tuple #[sv n1 (.slice A s1.length c), .int .i64 0]) ∧ Row w' (.slice A s1.length c) s1 ∧ Since w w' := by
  have k := Sg03.neg_any A0 c0 na xs w hx lx
  rwa [h] at k

set_option maxRecDepth 100000 in
set_option maxHeartbeats 40000000 in
theorem walk (b0 : Bool) (a0 : Option Addr) (len0 cap0 : Nat) (z0 : List Int) (b1 : Bool) (a1 : Option Addr) (len1 cap1 : Nat) (z1 : List Int) (b2 : Bool) (a2 : Option Addr) (len2 cap2 : Nat) (z2 : List Int) (w : World) (w0 : IsRow .u32 w a0 len0 cap0 z0) (w1 : IsRow .u32 w a1 len1 cap1 z1) (w2 : IsRow .u32 w a2 len2 cap2 z2) :
    Calls Try.prog 6 #[.agg #[.bool b0, .slice a0 len0 cap0], .agg #[.bool b1, .slice a1 len1 cap1], .agg #[.bool b2, .slice a2 len2 cap2]] w fun e w' => e = .returned (.bool true) ∧ Since w w' := by
  obtain ⟨d0, hl0, hr0⟩ := row_in w0
  have R0 := Lib.hid hr0
  obtain ⟨d1, hl1, hr1⟩ := row_in w1
  have R1 := Lib.hid hr1
  obtain ⟨d2, hl2, hr2⟩ := row_in w2
  have R2 := Lib.hid hr2
  clear w0 hr0 w1 hr1 w2 hr2
  subst hl0 hl1 hl2
  obtain ⟨W0, hW0⟩ : ∃ W0, W0 = ((w.alloc (.cells #[.bool b0, .slice a0 d0.length cap0] 24)).alloc (.cells #[.bool b1, .slice a1 d1.length cap1] 24)).alloc (.cells #[.bool b2, .slice a2 d2.length cap2] 24) := ⟨_, rfl⟩
  have HW := Lib.hid hW0
  have hS0 : Since w W0 := by rw [hW0]; exact (((Since.refl w).alloc _).alloc _).alloc _
  have hold : Hid (∀ W : World, Since W0 W → (W.cell? ⟨w.heap.size, 0, none⟩ = some (.bool b0) ∧ W.cell? ⟨w.heap.size, 1, none⟩ = some (.slice a0 d0.length cap0) ∧ W.cell? ⟨w.heap.size + 1, 0, none⟩ = some (.bool b1) ∧ W.cell? ⟨w.heap.size + 1, 1, none⟩ = some (.slice a1 d1.length cap1) ∧ W.cell? ⟨w.heap.size + 1 + 1, 0, none⟩ = some (.bool b2) ∧ W.cell? ⟨w.heap.size + 1 + 1, 1, none⟩ = some (.slice a2 d2.length cap2)) ∧ Since w W) := fun W h => ⟨Law03.hold3of (hW0 ▸ h), hS0.trans h⟩
  clear hW0
  have hK := Since.refl W0
  by_cases g : (decide (d0.length ≤ 30) && (decide (d1.length ≤ 30) && decide (d2.length ≤ 30))) = true
  rotate_left
  · have HF := Lib.hid (show (decide (d0.length ≤ 30) && (decide (d1.length ≤ 30) && decide (d2.length ≤ 30))) = false by simpa using g)
    clear g
    go_enter Try.func6, Try.ntmps6
    go_wp2_with fail
    rw [← HW.out]
    go_wp2_with (first
      | (go_at_call 9; (with_reducible refine (Alive03.alive _).mono ?_); rintro e v0 ⟨rfl, h⟩; have hK := hK.trans h; obtain ⟨⟨k0, k1, k2, k3, k4, k5⟩, _⟩ := hold.out _ hK)
      | (go_at_call 10; (with_reducible refine (Law03.few_three _ _ ⟨b0, a0, cap0, d0⟩ ⟨b1, a1, cap1, d1⟩ ⟨b2, a2, cap2, d2⟩).mono ?_); rw [HF.out]; rintro e vf ⟨rfl, h⟩; have hK := hK.trans h; obtain ⟨⟨k0, k1, k2, k3, k4, k5⟩, _⟩ := hold.out _ hK))
    go_ret
    exact ⟨rfl, hS0.trans hK⟩
  have HF := Lib.hid g
  have L0 : d0.length ≤ 30 := by simp at g; omega
  have L1 : d1.length ≤ 30 := by simp at g; omega
  have L2 : d2.length ≤ 30 := by simp at g; omega
  have M0 := Lib.hid (show d0.length ≤ 1000 by omega)
  have M1 := Lib.hid (show d1.length ≤ 1000 by omega)
  have M2 := Lib.hid (show d2.length ≤ 1000 by omega)
  clear g L0 L1 L2
  by_cases gr : (srightB b0 d0 && (srightB b1 d1 && srightB b2 d2)) = true
  rotate_left
  · have HR := Lib.hid (show (srightB b0 d0 && (srightB b1 d1 && srightB b2 d2)) = false by simpa using gr)
    clear gr
    go_enter Try.func6, Try.ntmps6
    go_wp2_with fail
    rw [← HW.out]
    go_wp2_with (first
      | (go_at_call 9; (with_reducible refine (Alive03.alive _).mono ?_); rintro e v0 ⟨rfl, h⟩; have hK := hK.trans h; obtain ⟨⟨k0, k1, k2, k3, k4, k5⟩, _⟩ := hold.out _ hK)
      | (go_at_call 10; (with_reducible refine (Law03.few_three _ _ ⟨b0, a0, cap0, d0⟩ ⟨b1, a1, cap1, d1⟩ ⟨b2, a2, cap2, d2⟩).mono ?_); rw [HF.out]; rintro e vf ⟨rfl, h⟩; have hK := hK.trans h; obtain ⟨⟨k0, k1, k2, k3, k4, k5⟩, _⟩ := hold.out _ hK)
      | (go_at_call 32; (with_reducible refine (right_three' a0 a1 a2 cap0 cap1 cap2 b0 b1 b2 d0 d1 d2 _ (R0.out.since (hS0.trans hK)) (R1.out.since (hS0.trans hK)) (R2.out.since (hS0.trans hK)) M0.out M1.out M2.out).mono ?_); rw [HR.out]; rintro e vr ⟨rfl, h⟩; have hK := hK.trans h; obtain ⟨⟨k0, k1, k2, k3, k4, k5⟩, _⟩ := hold.out _ hK))
    go_ret
    exact ⟨rfl, hS0.trans hK⟩
  have HR := Lib.hid gr
  have RT := Lib.hid (show srightB b0 d0 = true ∧ srightB b1 d1 = true ∧ srightB b2 d2 = true by simpa using gr)
  clear gr
  obtain ⟨n, s, ⟨EN, EA, E2a, E2b, E3a, E3b⟩, ⟨E4a, E5, E4b, E6a, E7, E6b⟩, ⟨E8a, E9, E8b⟩, hl, hri⟩ := Ref03.laws_nums R0.out.dig R1.out.dig R2.out.dig RT.out.1 RT.out.2.1 RT.out.2.2 (by have h := HF.out; simp at h; omega) (by have h := HF.out; simp at h; omega) (by have h := HF.out; simp at h; omega)
  have EN := Lib.hid EN
  have EA := Lib.hid EA
  have E2a := Lib.hid E2a
  have E2b := Lib.hid E2b
  have E3a := Lib.hid E3a
  have E3b := Lib.hid E3b
  have E4a := Lib.hid E4a
  have E5 := Lib.hid E5
  have E4b := Lib.hid E4b
  have E6a := Lib.hid E6a
  have E7 := Lib.hid E7
  have E6b := Lib.hid E6b
  have E8a := Lib.hid E8a
  have E9 := Lib.hid E9
  have E8b := Lib.hid E8b
  have LEN : Hid (∀ i, (s i).length ≤ 1000) := Lib.hid (fun i => Nat.le_trans (hl i) (by omega))
  have RGT := Lib.hid hri
  clear hl hri
  go_enter Try.func6, Try.ntmps6
  go_wp2_with fail
  rw [← HW.out]
  go_upto_region 5 with (first
      | (go_at_call 9; (with_reducible refine (Alive03.alive _).mono ?_); rintro e v0 ⟨rfl, h⟩; have hK := hK.trans h; obtain ⟨⟨k0, k1, k2, k3, k4, k5⟩, _⟩ := hold.out _ hK)
      | (go_at_call 10; (with_reducible refine (Law03.few_three _ _ ⟨b0, a0, cap0, d0⟩ ⟨b1, a1, cap1, d1⟩ ⟨b2, a2, cap2, d2⟩).mono ?_); rw [HF.out]; rintro e vf ⟨rfl, h⟩; have hK := hK.trans h; obtain ⟨⟨k0, k1, k2, k3, k4, k5⟩, _⟩ := hold.out _ hK)
      | (go_at_call 32; (with_reducible refine (right_three' a0 a1 a2 cap0 cap1 cap2 b0 b1 b2 d0 d1 d2 _ (R0.out.since (hS0.trans hK)) (R1.out.since (hS0.trans hK)) (R2.out.since (hS0.trans hK)) M0.out M1.out M2.out).mono ?_); rw [HR.out]; rintro e vf ⟨rfl, h⟩; have hZ := hK.trans h; have hK := hZ; obtain ⟨⟨k0, k1, k2, k3, k4, k5⟩, _⟩ := hold.out _ hK))
  clear hK h
  go_cut [7, 8, 9] (fun p7 p8 p9 W => ∃ (c0 : Nat) (c1 : Nat) (c2 : Nat), p7 = .pointer (some ⟨c0, 0, none⟩) ∧ p8 = .pointer (some ⟨c1, 0, none⟩) ∧ p9 = .pointer (some ⟨c2, 0, none⟩) ∧ Since vf W ∧ (W.cell? ⟨c0, 0, none⟩ = some (.bool b0) ∧ W.cell? ⟨c0, 1, none⟩ = some (.slice a0 d0.length cap0)) ∧ (W.cell? ⟨c1, 0, none⟩ = some (.bool b1) ∧ W.cell? ⟨c1, 1, none⟩ = some (.slice a1 d1.length cap1)) ∧ (W.cell? ⟨c2, 0, none⟩ = some (.bool b2) ∧ W.cell? ⟨c2, 1, none⟩ = some (.slice a2 d2.length cap2)))
  case first =>
    have hSall : Hid (∀ W : World, Since vf W → W.cell? ⟨w.heap.size, 0, none⟩ = some (.bool b0) ∧ W.cell? ⟨w.heap.size, 1, none⟩ = some (.slice a0 d0.length cap0) ∧ W.cell? ⟨w.heap.size + 1, 0, none⟩ = some (.bool b1) ∧ W.cell? ⟨w.heap.size + 1, 1, none⟩ = some (.slice a1 d1.length cap1) ∧ W.cell? ⟨w.heap.size + 1 + 1, 0, none⟩ = some (.bool b2) ∧ W.cell? ⟨w.heap.size + 1 + 1, 1, none⟩ = some (.slice a2 d2.length cap2)) := fun W h => (hold.out _ (hZ.trans h)).1
    have hr0 : Since vf vf.drew := Since.drew (Since.refl _)
    refine wp_region_noPanic ?_
    refine Reg.wp_region_G (S := fun W => W.cell? ⟨w.heap.size, 0, none⟩ = some (.bool b0) ∧ W.cell? ⟨w.heap.size, 1, none⟩ = some (.slice a0 d0.length cap0) ∧ W.cell? ⟨w.heap.size + 1, 0, none⟩ = some (.bool b1) ∧ W.cell? ⟨w.heap.size + 1, 1, none⟩ = some (.slice a1 d1.length cap1) ∧ W.cell? ⟨w.heap.size + 1 + 1, 0, none⟩ = some (.bool b2) ∧ W.cell? ⟨w.heap.size + 1 + 1, 1, none⟩ = some (.slice a2 d2.length cap2)) (fun j => [9, 10, 11].contains j) (by kernel_rfl) ?_ ?_
    · exact hSall.out _ (hr0)
    refine' Reg.wpG_take (i := 0) (oi := { dst := some 31, op := Op.load 24 (Operand.tmp 3), type := 24, pos := "law.go:118", after := #[], guard := none }) (v := _) [1, 3, 5, 9, 10, 11] [9, 10, 11] rfl rfl (by kernel_rfl) (by kernel_rfl) (by kernel_rfl) (by kernel_rfl) (by kernel_rfl) (by kernel_rfl) (by kernel_rfl) (fun _ _ _ h => h) (Or.inl ⟨by rfl, Or.inl ?hy1⟩) ?rest1
    case hy1 => (intro w' kk ss; (try dsimp only at ss); go_simp; first | done | with_reducible rfl)
    try simp only [Act.put, List.setIfInBounds_toArray, List.set_cons_zero, List.set_cons_succ]
    refine Reg.wpG_take (i := 1) (oi := { dst := some 32, op := Op.call { callee := Callee.value (Operand.func 12), args := #[Operand.tmp 31], argTypes := #[24] }, type := 30, pos := "law.go:118", after := #[{ on := 0, ground := Ground.data }], guard := none }) (v := sv b0 (.slice a0 d0.length cap0)) [3, 5, 9, 10, 11] [9, 10, 11] rfl rfl (by kernel_rfl) (by kernel_rfl) (by kernel_rfl) (by kernel_rfl) (by kernel_rfl) (by kernel_rfl) (by kernel_rfl) (fun _ _ _ h => h) (Or.inl ⟨by rfl, Or.inr ⟨12, #[sv b0 (.slice a0 d0.length cap0)], fun w' kk ss => ⟨?_, ?_⟩⟩⟩) ?_
    · (try dsimp only at ss); go_simp
    · exact (Law03.theirs_any a0 d0.length cap0 b0 w').mono fun e w'' h => ⟨h.1, h.2, hSall.out _ ((hr0.trans (kk.trans h.2)))⟩
    try simp only [Act.put, List.setIfInBounds_toArray, List.set_cons_zero, List.set_cons_succ]
    refine' Reg.wpG_take (i := 2) (oi := { dst := some 33, op := Op.load 24 (Operand.tmp 4), type := 24, pos := "law.go:118", after := #[], guard := none }) (v := _) [3, 5, 9, 10, 11] [9, 10, 11] rfl rfl (by kernel_rfl) (by kernel_rfl) (by kernel_rfl) (by kernel_rfl) (by kernel_rfl) (by kernel_rfl) (by kernel_rfl) (fun _ _ _ h => h) (Or.inl ⟨by rfl, Or.inl ?hy2⟩) ?rest2
    case hy2 => (intro w' kk ss; (try dsimp only at ss); go_simp; first | done | with_reducible rfl)
    try simp only [Act.put, List.setIfInBounds_toArray, List.set_cons_zero, List.set_cons_succ]
    refine Reg.wpG_take (i := 3) (oi := { dst := some 34, op := Op.call { callee := Callee.value (Operand.func 12), args := #[Operand.tmp 33], argTypes := #[24] }, type := 30, pos := "law.go:118", after := #[{ on := 2, ground := Ground.data }, { on := 1, ground := Ground.chain }], guard := none }) (v := sv b1 (.slice a1 d1.length cap1)) [5, 9, 10, 11] [9, 10, 11] rfl rfl (by kernel_rfl) (by kernel_rfl) (by kernel_rfl) (by kernel_rfl) (by kernel_rfl) (by kernel_rfl) (by kernel_rfl) (fun _ _ _ h => h) (Or.inl ⟨by rfl, Or.inr ⟨12, #[sv b1 (.slice a1 d1.length cap1)], fun w' kk ss => ⟨?_, ?_⟩⟩⟩) ?_
    · (try dsimp only at ss); go_simp
    · exact (Law03.theirs_any a1 d1.length cap1 b1 w').mono fun e w'' h => ⟨h.1, h.2, hSall.out _ ((hr0.trans (kk.trans h.2)))⟩
    try simp only [Act.put, List.setIfInBounds_toArray, List.set_cons_zero, List.set_cons_succ]
    refine' Reg.wpG_take (i := 4) (oi := { dst := some 35, op := Op.load 24 (Operand.tmp 5), type := 24, pos := "law.go:118", after := #[], guard := none }) (v := _) [5, 9, 10, 11] [9, 10, 11] rfl rfl (by kernel_rfl) (by kernel_rfl) (by kernel_rfl) (by kernel_rfl) (by kernel_rfl) (by kernel_rfl) (by kernel_rfl) (fun _ _ _ h => h) (Or.inl ⟨by rfl, Or.inl ?hy3⟩) ?rest3
    case hy3 => (intro w' kk ss; (try dsimp only at ss); go_simp; first | done | with_reducible rfl)
    try simp only [Act.put, List.setIfInBounds_toArray, List.set_cons_zero, List.set_cons_succ]
    refine Reg.wpG_take (i := 5) (oi := { dst := some 36, op := Op.call { callee := Callee.value (Operand.func 12), args := #[Operand.tmp 35], argTypes := #[24] }, type := 30, pos := "law.go:118", after := #[{ on := 4, ground := Ground.data }, { on := 3, ground := Ground.chain }], guard := none }) (v := sv b2 (.slice a2 d2.length cap2)) [9, 10, 11] [9, 10, 11] rfl rfl (by kernel_rfl) (by kernel_rfl) (by kernel_rfl) (by kernel_rfl) (by kernel_rfl) (by kernel_rfl) (by kernel_rfl) (fun _ _ _ h => h) (Or.inl ⟨by rfl, Or.inr ⟨12, #[sv b2 (.slice a2 d2.length cap2)], fun w' kk ss => ⟨?_, ?_⟩⟩⟩) ?_
    · (try dsimp only at ss); go_simp
    · exact (Law03.theirs_any a2 d2.length cap2 b2 w').mono fun e w'' h => ⟨h.1, h.2, hSall.out _ ((hr0.trans (kk.trans h.2)))⟩
    try simp only [Act.put, List.setIfInBounds_toArray, List.set_cons_zero, List.set_cons_succ]
    refine Reg.wpG_ready (rs := [6, 7, 8]) (by kernel_rfl) (by simp) (fun wq1 k1' sq1 => ?_)
    have hr0 := hr0.trans k1'
    refine Reg.AllG.first (o := { dst := some 7, op := Op.alloc 30, type := 0, pos := "law.go:118", after := #[], guard := none }) rfl (by rfl) (fun K hK => ?_) (Reg.AllG.first (o := { dst := some 8, op := Op.alloc 30, type := 0, pos := "law.go:118", after := #[], guard := none }) rfl (by rfl) (fun K hK => ?_) (Reg.AllG.first (o := { dst := some 9, op := Op.alloc 30, type := 0, pos := "law.go:118", after := #[], guard := none }) rfl (by rfl) (fun K hK => ?_) Reg.AllG.nil))
    · go_simp
      refine hK.out _ _ ?_ (since_alloc _ _) ?_
      · exact hSall.out _ ((hr0.trans (since_alloc _ _)))
      clear hK K
      try simp only [Act.put, List.setIfInBounds_toArray, List.set_cons_zero, List.set_cons_succ]
      have Z6 := Law03.Zero.fresh wq1 30
      have hb6 := hr0.size
      have hr0 := hr0.trans (since_alloc wq1 (.cells #[.bool false, .slice none 0 0] 30))
      refine Reg.wpG_ready (rs := [7, 8]) (by kernel_rfl) (by simp) (fun wq2 k2' sq2 => ?_)
      have hr0 := hr0.trans k2'
      have Z6 := Z6.since k2'
      refine Reg.AllG.first (o := { dst := some 8, op := Op.alloc 30, type := 0, pos := "law.go:118", after := #[], guard := none }) rfl (by rfl) (fun K hK => ?_) (Reg.AllG.first (o := { dst := some 9, op := Op.alloc 30, type := 0, pos := "law.go:118", after := #[], guard := none }) rfl (by rfl) (fun K hK => ?_) Reg.AllG.nil)
      · go_simp
        refine hK.out _ _ ?_ (since_alloc _ _) ?_
        · exact hSall.out _ ((hr0.trans (since_alloc _ _)))
        clear hK K
        try simp only [Act.put, List.setIfInBounds_toArray, List.set_cons_zero, List.set_cons_succ]
        have q6 : wq1.heap.size ≠ wq2.heap.size := Nat.ne_of_lt Z6.lt
        have q6' : wq2.heap.size ≠ wq1.heap.size := Ne.symm q6
        have Z6 := Z6.since (since_alloc wq2 (.cells #[.bool false, .slice none 0 0] 30))
        have Z7 := Law03.Zero.fresh wq2 30
        have hb7 := hr0.size
        have hr0 := hr0.trans (since_alloc wq2 (.cells #[.bool false, .slice none 0 0] 30))
        refine Reg.wpG_ready (rs := [8]) (by kernel_rfl) (by simp) (fun wq3 k3' sq3 => ?_)
        have hr0 := hr0.trans k3'
        have Z6 := Z6.since k3'
        have Z7 := Z7.since k3'
        refine Reg.AllG.first (o := { dst := some 9, op := Op.alloc 30, type := 0, pos := "law.go:118", after := #[], guard := none }) rfl (by rfl) (fun K hK => ?_) Reg.AllG.nil
        · go_simp
          refine hK.out _ _ ?_ (since_alloc _ _) ?_
          · exact hSall.out _ ((hr0.trans (since_alloc _ _)))
          clear hK K
          try simp only [Act.put, List.setIfInBounds_toArray, List.set_cons_zero, List.set_cons_succ]
          have q6 : wq1.heap.size ≠ wq3.heap.size := Nat.ne_of_lt Z6.lt
          have q7 : wq2.heap.size ≠ wq3.heap.size := Nat.ne_of_lt Z7.lt
          have q6' : wq3.heap.size ≠ wq1.heap.size := Ne.symm q6
          have q7' : wq3.heap.size ≠ wq2.heap.size := Ne.symm q7
          have Z6 := Z6.since (since_alloc wq3 (.cells #[.bool false, .slice none 0 0] 30))
          have Z7 := Z7.since (since_alloc wq3 (.cells #[.bool false, .slice none 0 0] 30))
          have Z8 := Law03.Zero.fresh wq3 30
          have hb8 := hr0.size
          have hr0 := hr0.trans (since_alloc wq3 (.cells #[.bool false, .slice none 0 0] 30))
          refine Reg.wpG_ready (rs := [9]) (by kernel_rfl) (by simp) (fun wq4 k4' sq4 => ?_)
          have hr0 := hr0.trans k4'
          have Z6 := Z6.since k4'
          have Z7 := Z7.since k4'
          have Z8 := Z8.since k4'
          refine Reg.AllG.last (o := { dst := none, op := Op.store 30 (Operand.tmp 7) (Operand.tmp 32), type := 0, pos := "law.go:118", after := #[{ on := 6, ground := Ground.data }, { on := 1, ground := Ground.data }, { on := 5, ground := Ground.chain }, { on := 0, ground := Ground.phase }, { on := 1, ground := Ground.phase }, { on := 2, ground := Ground.textOnly Departure.lateStores }, { on := 3, ground := Ground.textOnly Departure.lateStoresUnsure }, { on := 4, ground := Ground.textOnly Departure.lateStores }, { on := 5, ground := Ground.textOnly Departure.lateStoresUnsure }, { on := 6, ground := Ground.phase }, { on := 7, ground := Ground.phase }, { on := 8, ground := Ground.phase }], guard := none }) rfl (by rfl) (fun K hK => ?_) Reg.AllG.nil
          obtain ⟨z6a, z6b, z6c, z6d⟩ := Z6
          obtain ⟨z7a, z7b, z7c, z7d⟩ := Z7
          obtain ⟨z8a, z8b, z8c, z8d⟩ := Z8
          go_simp
          refine hK.out _ _ ?_ (fun hHeld => ?_)
          · refine hSall.out _ ?_; repeat (first | (with_reducible assumption) | (with_reducible exact Since.refl _) | (with_reducible refine Since.alloc ?_ _) | (with_reducible refine Since.set ?_ ?_ _; rotate_left; first | (with_reducible exact Nat.le_refl _) | (with_reducible assumption) | (with_reducible exact hb6) | (with_reducible exact hb7) | (with_reducible exact hb8) | (with_reducible exact hby) | (dsimp only; omega)))
          clear hK K
          try simp only [Act.put, List.setIfInBounds_toArray, List.set_cons_zero, List.set_cons_succ]
          refine wpAnyH_ready (rs := [10]) (by kernel_rfl) (by simp) ?_
          refine AllReadyH.cons (o := { dst := none, op := Op.store 30 (Operand.tmp 8) (Operand.tmp 34), type := 0, pos := "law.go:118", after := #[{ on := 7, ground := Ground.data }, { on := 3, ground := Ground.data }, { on := 9, ground := Ground.chain }, { on := 0, ground := Ground.phase }, { on := 1, ground := Ground.phase }, { on := 2, ground := Ground.phase }, { on := 3, ground := Ground.phase }, { on := 4, ground := Ground.textOnly Departure.lateStores }, { on := 5, ground := Ground.textOnly Departure.lateStoresUnsure }, { on := 6, ground := Ground.phase }, { on := 7, ground := Ground.phase }, { on := 8, ground := Ground.phase }, { on := 9, ground := Ground.phase }], guard := none }) rfl (fun K hK => ?_) AllReadyH.nil
          · go_simp
            refine hK.out _ _ ?_ (fun hHeld => ?_)
            · refine hSall.out _ ?_; repeat (first | (with_reducible assumption) | (with_reducible exact Since.refl _) | (with_reducible refine Since.alloc ?_ _) | (with_reducible refine Since.set ?_ ?_ _; rotate_left; first | (with_reducible exact Nat.le_refl _) | (with_reducible assumption) | (with_reducible exact hb6) | (with_reducible exact hb7) | (with_reducible exact hb8) | (with_reducible exact hby) | (dsimp only; omega)))
            clear hK K
            try simp only [Act.put, List.setIfInBounds_toArray, List.set_cons_zero, List.set_cons_succ]
            refine wpAnyH_ready (rs := [11]) (by kernel_rfl) (by simp) ?_
            refine AllReadyH.cons (o := { dst := none, op := Op.store 30 (Operand.tmp 9) (Operand.tmp 36), type := 0, pos := "law.go:118", after := #[{ on := 8, ground := Ground.data }, { on := 5, ground := Ground.data }, { on := 10, ground := Ground.chain }, { on := 0, ground := Ground.phase }, { on := 1, ground := Ground.phase }, { on := 2, ground := Ground.phase }, { on := 3, ground := Ground.phase }, { on := 4, ground := Ground.phase }, { on := 5, ground := Ground.phase }, { on := 6, ground := Ground.phase }, { on := 7, ground := Ground.phase }, { on := 8, ground := Ground.phase }, { on := 9, ground := Ground.phase }, { on := 10, ground := Ground.phase }], guard := none }) rfl (fun K hK => ?_) AllReadyH.nil
            · go_simp
              refine hK.out _ _ ?_ (fun hHeld => ?_)
              · refine hSall.out _ ?_; repeat (first | (with_reducible assumption) | (with_reducible exact Since.refl _) | (with_reducible refine Since.alloc ?_ _) | (with_reducible refine Since.set ?_ ?_ _; rotate_left; first | (with_reducible exact Nat.le_refl _) | (with_reducible assumption) | (with_reducible exact hb6) | (with_reducible exact hb7) | (with_reducible exact hb8) | (with_reducible exact hby) | (dsimp only; omega)))
              clear hK K
              try simp only [Act.put, List.setIfInBounds_toArray, List.set_cons_zero, List.set_cons_succ]
              refine wpAnyH_done (by kernel_rfl) ?_ _
              refine NoPanic.normal ?_
              go_wp2_with fail
              go_meet
              refine ⟨_, _, _, rfl, rfl, rfl, ?_, ⟨?_, ?_⟩, ⟨?_, ?_⟩, ⟨?_, ?_⟩⟩
              · repeat (first | (with_reducible assumption) | (with_reducible exact Since.refl _) | (with_reducible refine Since.alloc ?_ _) | (with_reducible refine Since.set ?_ ?_ _; rotate_left; first | (with_reducible exact Nat.le_refl _) | (with_reducible assumption) | (with_reducible exact hb6) | (with_reducible exact hb7) | (with_reducible exact hb8) | (with_reducible exact hby) | (dsimp only; omega)))
              · go_simp
              · go_simp
              · go_simp
              · go_simp
              · go_simp
              · go_simp
      · go_simp
        refine hK.out _ _ ?_ (since_alloc _ _) ?_
        · exact hSall.out _ ((hr0.trans (since_alloc _ _)))
        clear hK K
        try simp only [Act.put, List.setIfInBounds_toArray, List.set_cons_zero, List.set_cons_succ]
        have q6 : wq1.heap.size ≠ wq2.heap.size := Nat.ne_of_lt Z6.lt
        have q6' : wq2.heap.size ≠ wq1.heap.size := Ne.symm q6
        have Z6 := Z6.since (since_alloc wq2 (.cells #[.bool false, .slice none 0 0] 30))
        have Z8 := Law03.Zero.fresh wq2 30
        have hb8 := hr0.size
        have hr0 := hr0.trans (since_alloc wq2 (.cells #[.bool false, .slice none 0 0] 30))
        refine Reg.wpG_ready (rs := [7]) (by kernel_rfl) (by simp) (fun wq3 k3' sq3 => ?_)
        have hr0 := hr0.trans k3'
        have Z6 := Z6.since k3'
        have Z8 := Z8.since k3'
        refine Reg.AllG.first (o := { dst := some 8, op := Op.alloc 30, type := 0, pos := "law.go:118", after := #[], guard := none }) rfl (by rfl) (fun K hK => ?_) Reg.AllG.nil
        · go_simp
          refine hK.out _ _ ?_ (since_alloc _ _) ?_
          · exact hSall.out _ ((hr0.trans (since_alloc _ _)))
          clear hK K
          try simp only [Act.put, List.setIfInBounds_toArray, List.set_cons_zero, List.set_cons_succ]
          have q6 : wq1.heap.size ≠ wq3.heap.size := Nat.ne_of_lt Z6.lt
          have q8 : wq2.heap.size ≠ wq3.heap.size := Nat.ne_of_lt Z8.lt
          have q6' : wq3.heap.size ≠ wq1.heap.size := Ne.symm q6
          have q8' : wq3.heap.size ≠ wq2.heap.size := Ne.symm q8
          have Z6 := Z6.since (since_alloc wq3 (.cells #[.bool false, .slice none 0 0] 30))
          have Z8 := Z8.since (since_alloc wq3 (.cells #[.bool false, .slice none 0 0] 30))
          have Z7 := Law03.Zero.fresh wq3 30
          have hb7 := hr0.size
          have hr0 := hr0.trans (since_alloc wq3 (.cells #[.bool false, .slice none 0 0] 30))
          refine Reg.wpG_ready (rs := [9]) (by kernel_rfl) (by simp) (fun wq4 k4' sq4 => ?_)
          have hr0 := hr0.trans k4'
          have Z6 := Z6.since k4'
          have Z8 := Z8.since k4'
          have Z7 := Z7.since k4'
          refine Reg.AllG.last (o := { dst := none, op := Op.store 30 (Operand.tmp 7) (Operand.tmp 32), type := 0, pos := "law.go:118", after := #[{ on := 6, ground := Ground.data }, { on := 1, ground := Ground.data }, { on := 5, ground := Ground.chain }, { on := 0, ground := Ground.phase }, { on := 1, ground := Ground.phase }, { on := 2, ground := Ground.textOnly Departure.lateStores }, { on := 3, ground := Ground.textOnly Departure.lateStoresUnsure }, { on := 4, ground := Ground.textOnly Departure.lateStores }, { on := 5, ground := Ground.textOnly Departure.lateStoresUnsure }, { on := 6, ground := Ground.phase }, { on := 7, ground := Ground.phase }, { on := 8, ground := Ground.phase }], guard := none }) rfl (by rfl) (fun K hK => ?_) Reg.AllG.nil
          obtain ⟨z6a, z6b, z6c, z6d⟩ := Z6
          obtain ⟨z8a, z8b, z8c, z8d⟩ := Z8
          obtain ⟨z7a, z7b, z7c, z7d⟩ := Z7
          go_simp
          refine hK.out _ _ ?_ (fun hHeld => ?_)
          · refine hSall.out _ ?_; repeat (first | (with_reducible assumption) | (with_reducible exact Since.refl _) | (with_reducible refine Since.alloc ?_ _) | (with_reducible refine Since.set ?_ ?_ _; rotate_left; first | (with_reducible exact Nat.le_refl _) | (with_reducible assumption) | (with_reducible exact hb6) | (with_reducible exact hb8) | (with_reducible exact hb7) | (with_reducible exact hby) | (dsimp only; omega)))
          clear hK K
          try simp only [Act.put, List.setIfInBounds_toArray, List.set_cons_zero, List.set_cons_succ]
          refine wpAnyH_ready (rs := [10]) (by kernel_rfl) (by simp) ?_
          refine AllReadyH.cons (o := { dst := none, op := Op.store 30 (Operand.tmp 8) (Operand.tmp 34), type := 0, pos := "law.go:118", after := #[{ on := 7, ground := Ground.data }, { on := 3, ground := Ground.data }, { on := 9, ground := Ground.chain }, { on := 0, ground := Ground.phase }, { on := 1, ground := Ground.phase }, { on := 2, ground := Ground.phase }, { on := 3, ground := Ground.phase }, { on := 4, ground := Ground.textOnly Departure.lateStores }, { on := 5, ground := Ground.textOnly Departure.lateStoresUnsure }, { on := 6, ground := Ground.phase }, { on := 7, ground := Ground.phase }, { on := 8, ground := Ground.phase }, { on := 9, ground := Ground.phase }], guard := none }) rfl (fun K hK => ?_) AllReadyH.nil
          · go_simp
            refine hK.out _ _ ?_ (fun hHeld => ?_)
            · refine hSall.out _ ?_; repeat (first | (with_reducible assumption) | (with_reducible exact Since.refl _) | (with_reducible refine Since.alloc ?_ _) | (with_reducible refine Since.set ?_ ?_ _; rotate_left; first | (with_reducible exact Nat.le_refl _) | (with_reducible assumption) | (with_reducible exact hb6) | (with_reducible exact hb8) | (with_reducible exact hb7) | (with_reducible exact hby) | (dsimp only; omega)))
            clear hK K
            try simp only [Act.put, List.setIfInBounds_toArray, List.set_cons_zero, List.set_cons_succ]
            refine wpAnyH_ready (rs := [11]) (by kernel_rfl) (by simp) ?_
            refine AllReadyH.cons (o := { dst := none, op := Op.store 30 (Operand.tmp 9) (Operand.tmp 36), type := 0, pos := "law.go:118", after := #[{ on := 8, ground := Ground.data }, { on := 5, ground := Ground.data }, { on := 10, ground := Ground.chain }, { on := 0, ground := Ground.phase }, { on := 1, ground := Ground.phase }, { on := 2, ground := Ground.phase }, { on := 3, ground := Ground.phase }, { on := 4, ground := Ground.phase }, { on := 5, ground := Ground.phase }, { on := 6, ground := Ground.phase }, { on := 7, ground := Ground.phase }, { on := 8, ground := Ground.phase }, { on := 9, ground := Ground.phase }, { on := 10, ground := Ground.phase }], guard := none }) rfl (fun K hK => ?_) AllReadyH.nil
            · go_simp
              refine hK.out _ _ ?_ (fun hHeld => ?_)
              · refine hSall.out _ ?_; repeat (first | (with_reducible assumption) | (with_reducible exact Since.refl _) | (with_reducible refine Since.alloc ?_ _) | (with_reducible refine Since.set ?_ ?_ _; rotate_left; first | (with_reducible exact Nat.le_refl _) | (with_reducible assumption) | (with_reducible exact hb6) | (with_reducible exact hb8) | (with_reducible exact hb7) | (with_reducible exact hby) | (dsimp only; omega)))
              clear hK K
              try simp only [Act.put, List.setIfInBounds_toArray, List.set_cons_zero, List.set_cons_succ]
              refine wpAnyH_done (by kernel_rfl) ?_ _
              refine NoPanic.normal ?_
              go_wp2_with fail
              go_meet
              refine ⟨_, _, _, rfl, rfl, rfl, ?_, ⟨?_, ?_⟩, ⟨?_, ?_⟩, ⟨?_, ?_⟩⟩
              · repeat (first | (with_reducible assumption) | (with_reducible exact Since.refl _) | (with_reducible refine Since.alloc ?_ _) | (with_reducible refine Since.set ?_ ?_ _; rotate_left; first | (with_reducible exact Nat.le_refl _) | (with_reducible assumption) | (with_reducible exact hb6) | (with_reducible exact hb8) | (with_reducible exact hb7) | (with_reducible exact hby) | (dsimp only; omega)))
              · go_simp
              · go_simp
              · go_simp
              · go_simp
              · go_simp
              · go_simp
    · go_simp
      refine hK.out _ _ ?_ (since_alloc _ _) ?_
      · exact hSall.out _ ((hr0.trans (since_alloc _ _)))
      clear hK K
      try simp only [Act.put, List.setIfInBounds_toArray, List.set_cons_zero, List.set_cons_succ]
      have Z7 := Law03.Zero.fresh wq1 30
      have hb7 := hr0.size
      have hr0 := hr0.trans (since_alloc wq1 (.cells #[.bool false, .slice none 0 0] 30))
      refine Reg.wpG_ready (rs := [6, 8]) (by kernel_rfl) (by simp) (fun wq2 k2' sq2 => ?_)
      have hr0 := hr0.trans k2'
      have Z7 := Z7.since k2'
      refine Reg.AllG.first (o := { dst := some 7, op := Op.alloc 30, type := 0, pos := "law.go:118", after := #[], guard := none }) rfl (by rfl) (fun K hK => ?_) (Reg.AllG.first (o := { dst := some 9, op := Op.alloc 30, type := 0, pos := "law.go:118", after := #[], guard := none }) rfl (by rfl) (fun K hK => ?_) Reg.AllG.nil)
      · go_simp
        refine hK.out _ _ ?_ (since_alloc _ _) ?_
        · exact hSall.out _ ((hr0.trans (since_alloc _ _)))
        clear hK K
        try simp only [Act.put, List.setIfInBounds_toArray, List.set_cons_zero, List.set_cons_succ]
        have q7 : wq1.heap.size ≠ wq2.heap.size := Nat.ne_of_lt Z7.lt
        have q7' : wq2.heap.size ≠ wq1.heap.size := Ne.symm q7
        have Z7 := Z7.since (since_alloc wq2 (.cells #[.bool false, .slice none 0 0] 30))
        have Z6 := Law03.Zero.fresh wq2 30
        have hb6 := hr0.size
        have hr0 := hr0.trans (since_alloc wq2 (.cells #[.bool false, .slice none 0 0] 30))
        refine Reg.wpG_ready (rs := [8]) (by kernel_rfl) (by simp) (fun wq3 k3' sq3 => ?_)
        have hr0 := hr0.trans k3'
        have Z7 := Z7.since k3'
        have Z6 := Z6.since k3'
        refine Reg.AllG.first (o := { dst := some 9, op := Op.alloc 30, type := 0, pos := "law.go:118", after := #[], guard := none }) rfl (by rfl) (fun K hK => ?_) Reg.AllG.nil
        · go_simp
          refine hK.out _ _ ?_ (since_alloc _ _) ?_
          · exact hSall.out _ ((hr0.trans (since_alloc _ _)))
          clear hK K
          try simp only [Act.put, List.setIfInBounds_toArray, List.set_cons_zero, List.set_cons_succ]
          have q7 : wq1.heap.size ≠ wq3.heap.size := Nat.ne_of_lt Z7.lt
          have q6 : wq2.heap.size ≠ wq3.heap.size := Nat.ne_of_lt Z6.lt
          have q7' : wq3.heap.size ≠ wq1.heap.size := Ne.symm q7
          have q6' : wq3.heap.size ≠ wq2.heap.size := Ne.symm q6
          have Z7 := Z7.since (since_alloc wq3 (.cells #[.bool false, .slice none 0 0] 30))
          have Z6 := Z6.since (since_alloc wq3 (.cells #[.bool false, .slice none 0 0] 30))
          have Z8 := Law03.Zero.fresh wq3 30
          have hb8 := hr0.size
          have hr0 := hr0.trans (since_alloc wq3 (.cells #[.bool false, .slice none 0 0] 30))
          refine Reg.wpG_ready (rs := [9]) (by kernel_rfl) (by simp) (fun wq4 k4' sq4 => ?_)
          have hr0 := hr0.trans k4'
          have Z7 := Z7.since k4'
          have Z6 := Z6.since k4'
          have Z8 := Z8.since k4'
          refine Reg.AllG.last (o := { dst := none, op := Op.store 30 (Operand.tmp 7) (Operand.tmp 32), type := 0, pos := "law.go:118", after := #[{ on := 6, ground := Ground.data }, { on := 1, ground := Ground.data }, { on := 5, ground := Ground.chain }, { on := 0, ground := Ground.phase }, { on := 1, ground := Ground.phase }, { on := 2, ground := Ground.textOnly Departure.lateStores }, { on := 3, ground := Ground.textOnly Departure.lateStoresUnsure }, { on := 4, ground := Ground.textOnly Departure.lateStores }, { on := 5, ground := Ground.textOnly Departure.lateStoresUnsure }, { on := 6, ground := Ground.phase }, { on := 7, ground := Ground.phase }, { on := 8, ground := Ground.phase }], guard := none }) rfl (by rfl) (fun K hK => ?_) Reg.AllG.nil
          obtain ⟨z7a, z7b, z7c, z7d⟩ := Z7
          obtain ⟨z6a, z6b, z6c, z6d⟩ := Z6
          obtain ⟨z8a, z8b, z8c, z8d⟩ := Z8
          go_simp
          refine hK.out _ _ ?_ (fun hHeld => ?_)
          · refine hSall.out _ ?_; repeat (first | (with_reducible assumption) | (with_reducible exact Since.refl _) | (with_reducible refine Since.alloc ?_ _) | (with_reducible refine Since.set ?_ ?_ _; rotate_left; first | (with_reducible exact Nat.le_refl _) | (with_reducible assumption) | (with_reducible exact hb7) | (with_reducible exact hb6) | (with_reducible exact hb8) | (with_reducible exact hby) | (dsimp only; omega)))
          clear hK K
          try simp only [Act.put, List.setIfInBounds_toArray, List.set_cons_zero, List.set_cons_succ]
          refine wpAnyH_ready (rs := [10]) (by kernel_rfl) (by simp) ?_
          refine AllReadyH.cons (o := { dst := none, op := Op.store 30 (Operand.tmp 8) (Operand.tmp 34), type := 0, pos := "law.go:118", after := #[{ on := 7, ground := Ground.data }, { on := 3, ground := Ground.data }, { on := 9, ground := Ground.chain }, { on := 0, ground := Ground.phase }, { on := 1, ground := Ground.phase }, { on := 2, ground := Ground.phase }, { on := 3, ground := Ground.phase }, { on := 4, ground := Ground.textOnly Departure.lateStores }, { on := 5, ground := Ground.textOnly Departure.lateStoresUnsure }, { on := 6, ground := Ground.phase }, { on := 7, ground := Ground.phase }, { on := 8, ground := Ground.phase }, { on := 9, ground := Ground.phase }], guard := none }) rfl (fun K hK => ?_) AllReadyH.nil
          · go_simp
            refine hK.out _ _ ?_ (fun hHeld => ?_)
            · refine hSall.out _ ?_; repeat (first | (with_reducible assumption) | (with_reducible exact Since.refl _) | (with_reducible refine Since.alloc ?_ _) | (with_reducible refine Since.set ?_ ?_ _; rotate_left; first | (with_reducible exact Nat.le_refl _) | (with_reducible assumption) | (with_reducible exact hb7) | (with_reducible exact hb6) | (with_reducible exact hb8) | (with_reducible exact hby) | (dsimp only; omega)))
            clear hK K
            try simp only [Act.put, List.setIfInBounds_toArray, List.set_cons_zero, List.set_cons_succ]
            refine wpAnyH_ready (rs := [11]) (by kernel_rfl) (by simp) ?_
            refine AllReadyH.cons (o := { dst := none, op := Op.store 30 (Operand.tmp 9) (Operand.tmp 36), type := 0, pos := "law.go:118", after := #[{ on := 8, ground := Ground.data }, { on := 5, ground := Ground.data }, { on := 10, ground := Ground.chain }, { on := 0, ground := Ground.phase }, { on := 1, ground := Ground.phase }, { on := 2, ground := Ground.phase }, { on := 3, ground := Ground.phase }, { on := 4, ground := Ground.phase }, { on := 5, ground := Ground.phase }, { on := 6, ground := Ground.phase }, { on := 7, ground := Ground.phase }, { on := 8, ground := Ground.phase }, { on := 9, ground := Ground.phase }, { on := 10, ground := Ground.phase }], guard := none }) rfl (fun K hK => ?_) AllReadyH.nil
            · go_simp
              refine hK.out _ _ ?_ (fun hHeld => ?_)
              · refine hSall.out _ ?_; repeat (first | (with_reducible assumption) | (with_reducible exact Since.refl _) | (with_reducible refine Since.alloc ?_ _) | (with_reducible refine Since.set ?_ ?_ _; rotate_left; first | (with_reducible exact Nat.le_refl _) | (with_reducible assumption) | (with_reducible exact hb7) | (with_reducible exact hb6) | (with_reducible exact hb8) | (with_reducible exact hby) | (dsimp only; omega)))
              clear hK K
              try simp only [Act.put, List.setIfInBounds_toArray, List.set_cons_zero, List.set_cons_succ]
              refine wpAnyH_done (by kernel_rfl) ?_ _
              refine NoPanic.normal ?_
              go_wp2_with fail
              go_meet
              refine ⟨_, _, _, rfl, rfl, rfl, ?_, ⟨?_, ?_⟩, ⟨?_, ?_⟩, ⟨?_, ?_⟩⟩
              · repeat (first | (with_reducible assumption) | (with_reducible exact Since.refl _) | (with_reducible refine Since.alloc ?_ _) | (with_reducible refine Since.set ?_ ?_ _; rotate_left; first | (with_reducible exact Nat.le_refl _) | (with_reducible assumption) | (with_reducible exact hb7) | (with_reducible exact hb6) | (with_reducible exact hb8) | (with_reducible exact hby) | (dsimp only; omega)))
              · go_simp
              · go_simp
              · go_simp
              · go_simp
              · go_simp
              · go_simp
      · go_simp
        refine hK.out _ _ ?_ (since_alloc _ _) ?_
        · exact hSall.out _ ((hr0.trans (since_alloc _ _)))
        clear hK K
        try simp only [Act.put, List.setIfInBounds_toArray, List.set_cons_zero, List.set_cons_succ]
        have q7 : wq1.heap.size ≠ wq2.heap.size := Nat.ne_of_lt Z7.lt
        have q7' : wq2.heap.size ≠ wq1.heap.size := Ne.symm q7
        have Z7 := Z7.since (since_alloc wq2 (.cells #[.bool false, .slice none 0 0] 30))
        have Z8 := Law03.Zero.fresh wq2 30
        have hb8 := hr0.size
        have hr0 := hr0.trans (since_alloc wq2 (.cells #[.bool false, .slice none 0 0] 30))
        refine Reg.wpG_ready (rs := [6]) (by kernel_rfl) (by simp) (fun wq3 k3' sq3 => ?_)
        have hr0 := hr0.trans k3'
        have Z7 := Z7.since k3'
        have Z8 := Z8.since k3'
        refine Reg.AllG.first (o := { dst := some 7, op := Op.alloc 30, type := 0, pos := "law.go:118", after := #[], guard := none }) rfl (by rfl) (fun K hK => ?_) Reg.AllG.nil
        · go_simp
          refine hK.out _ _ ?_ (since_alloc _ _) ?_
          · exact hSall.out _ ((hr0.trans (since_alloc _ _)))
          clear hK K
          try simp only [Act.put, List.setIfInBounds_toArray, List.set_cons_zero, List.set_cons_succ]
          have q7 : wq1.heap.size ≠ wq3.heap.size := Nat.ne_of_lt Z7.lt
          have q8 : wq2.heap.size ≠ wq3.heap.size := Nat.ne_of_lt Z8.lt
          have q7' : wq3.heap.size ≠ wq1.heap.size := Ne.symm q7
          have q8' : wq3.heap.size ≠ wq2.heap.size := Ne.symm q8
          have Z7 := Z7.since (since_alloc wq3 (.cells #[.bool false, .slice none 0 0] 30))
          have Z8 := Z8.since (since_alloc wq3 (.cells #[.bool false, .slice none 0 0] 30))
          have Z6 := Law03.Zero.fresh wq3 30
          have hb6 := hr0.size
          have hr0 := hr0.trans (since_alloc wq3 (.cells #[.bool false, .slice none 0 0] 30))
          refine Reg.wpG_ready (rs := [9]) (by kernel_rfl) (by simp) (fun wq4 k4' sq4 => ?_)
          have hr0 := hr0.trans k4'
          have Z7 := Z7.since k4'
          have Z8 := Z8.since k4'
          have Z6 := Z6.since k4'
          refine Reg.AllG.last (o := { dst := none, op := Op.store 30 (Operand.tmp 7) (Operand.tmp 32), type := 0, pos := "law.go:118", after := #[{ on := 6, ground := Ground.data }, { on := 1, ground := Ground.data }, { on := 5, ground := Ground.chain }, { on := 0, ground := Ground.phase }, { on := 1, ground := Ground.phase }, { on := 2, ground := Ground.textOnly Departure.lateStores }, { on := 3, ground := Ground.textOnly Departure.lateStoresUnsure }, { on := 4, ground := Ground.textOnly Departure.lateStores }, { on := 5, ground := Ground.textOnly Departure.lateStoresUnsure }, { on := 6, ground := Ground.phase }, { on := 7, ground := Ground.phase }, { on := 8, ground := Ground.phase }], guard := none }) rfl (by rfl) (fun K hK => ?_) Reg.AllG.nil
          obtain ⟨z7a, z7b, z7c, z7d⟩ := Z7
          obtain ⟨z8a, z8b, z8c, z8d⟩ := Z8
          obtain ⟨z6a, z6b, z6c, z6d⟩ := Z6
          go_simp
          refine hK.out _ _ ?_ (fun hHeld => ?_)
          · refine hSall.out _ ?_; repeat (first | (with_reducible assumption) | (with_reducible exact Since.refl _) | (with_reducible refine Since.alloc ?_ _) | (with_reducible refine Since.set ?_ ?_ _; rotate_left; first | (with_reducible exact Nat.le_refl _) | (with_reducible assumption) | (with_reducible exact hb7) | (with_reducible exact hb8) | (with_reducible exact hb6) | (with_reducible exact hby) | (dsimp only; omega)))
          clear hK K
          try simp only [Act.put, List.setIfInBounds_toArray, List.set_cons_zero, List.set_cons_succ]
          refine wpAnyH_ready (rs := [10]) (by kernel_rfl) (by simp) ?_
          refine AllReadyH.cons (o := { dst := none, op := Op.store 30 (Operand.tmp 8) (Operand.tmp 34), type := 0, pos := "law.go:118", after := #[{ on := 7, ground := Ground.data }, { on := 3, ground := Ground.data }, { on := 9, ground := Ground.chain }, { on := 0, ground := Ground.phase }, { on := 1, ground := Ground.phase }, { on := 2, ground := Ground.phase }, { on := 3, ground := Ground.phase }, { on := 4, ground := Ground.textOnly Departure.lateStores }, { on := 5, ground := Ground.textOnly Departure.lateStoresUnsure }, { on := 6, ground := Ground.phase }, { on := 7, ground := Ground.phase }, { on := 8, ground := Ground.phase }, { on := 9, ground := Ground.phase }], guard := none }) rfl (fun K hK => ?_) AllReadyH.nil
          · go_simp
            refine hK.out _ _ ?_ (fun hHeld => ?_)
            · refine hSall.out _ ?_; repeat (first | (with_reducible assumption) | (with_reducible exact Since.refl _) | (with_reducible refine Since.alloc ?_ _) | (with_reducible refine Since.set ?_ ?_ _; rotate_left; first | (with_reducible exact Nat.le_refl _) | (with_reducible assumption) | (with_reducible exact hb7) | (with_reducible exact hb8) | (with_reducible exact hb6) | (with_reducible exact hby) | (dsimp only; omega)))
            clear hK K
            try simp only [Act.put, List.setIfInBounds_toArray, List.set_cons_zero, List.set_cons_succ]
            refine wpAnyH_ready (rs := [11]) (by kernel_rfl) (by simp) ?_
            refine AllReadyH.cons (o := { dst := none, op := Op.store 30 (Operand.tmp 9) (Operand.tmp 36), type := 0, pos := "law.go:118", after := #[{ on := 8, ground := Ground.data }, { on := 5, ground := Ground.data }, { on := 10, ground := Ground.chain }, { on := 0, ground := Ground.phase }, { on := 1, ground := Ground.phase }, { on := 2, ground := Ground.phase }, { on := 3, ground := Ground.phase }, { on := 4, ground := Ground.phase }, { on := 5, ground := Ground.phase }, { on := 6, ground := Ground.phase }, { on := 7, ground := Ground.phase }, { on := 8, ground := Ground.phase }, { on := 9, ground := Ground.phase }, { on := 10, ground := Ground.phase }], guard := none }) rfl (fun K hK => ?_) AllReadyH.nil
            · go_simp
              refine hK.out _ _ ?_ (fun hHeld => ?_)
              · refine hSall.out _ ?_; repeat (first | (with_reducible assumption) | (with_reducible exact Since.refl _) | (with_reducible refine Since.alloc ?_ _) | (with_reducible refine Since.set ?_ ?_ _; rotate_left; first | (with_reducible exact Nat.le_refl _) | (with_reducible assumption) | (with_reducible exact hb7) | (with_reducible exact hb8) | (with_reducible exact hb6) | (with_reducible exact hby) | (dsimp only; omega)))
              clear hK K
              try simp only [Act.put, List.setIfInBounds_toArray, List.set_cons_zero, List.set_cons_succ]
              refine wpAnyH_done (by kernel_rfl) ?_ _
              refine NoPanic.normal ?_
              go_wp2_with fail
              go_meet
              refine ⟨_, _, _, rfl, rfl, rfl, ?_, ⟨?_, ?_⟩, ⟨?_, ?_⟩, ⟨?_, ?_⟩⟩
              · repeat (first | (with_reducible assumption) | (with_reducible exact Since.refl _) | (with_reducible refine Since.alloc ?_ _) | (with_reducible refine Since.set ?_ ?_ _; rotate_left; first | (with_reducible exact Nat.le_refl _) | (with_reducible assumption) | (with_reducible exact hb7) | (with_reducible exact hb8) | (with_reducible exact hb6) | (with_reducible exact hby) | (dsimp only; omega)))
              · go_simp
              · go_simp
              · go_simp
              · go_simp
              · go_simp
              · go_simp
    · go_simp
      refine hK.out _ _ ?_ (since_alloc _ _) ?_
      · exact hSall.out _ ((hr0.trans (since_alloc _ _)))
      clear hK K
      try simp only [Act.put, List.setIfInBounds_toArray, List.set_cons_zero, List.set_cons_succ]
      have Z8 := Law03.Zero.fresh wq1 30
      have hb8 := hr0.size
      have hr0 := hr0.trans (since_alloc wq1 (.cells #[.bool false, .slice none 0 0] 30))
      refine Reg.wpG_ready (rs := [6, 7]) (by kernel_rfl) (by simp) (fun wq2 k2' sq2 => ?_)
      have hr0 := hr0.trans k2'
      have Z8 := Z8.since k2'
      refine Reg.AllG.first (o := { dst := some 7, op := Op.alloc 30, type := 0, pos := "law.go:118", after := #[], guard := none }) rfl (by rfl) (fun K hK => ?_) (Reg.AllG.first (o := { dst := some 8, op := Op.alloc 30, type := 0, pos := "law.go:118", after := #[], guard := none }) rfl (by rfl) (fun K hK => ?_) Reg.AllG.nil)
      · go_simp
        refine hK.out _ _ ?_ (since_alloc _ _) ?_
        · exact hSall.out _ ((hr0.trans (since_alloc _ _)))
        clear hK K
        try simp only [Act.put, List.setIfInBounds_toArray, List.set_cons_zero, List.set_cons_succ]
        have q8 : wq1.heap.size ≠ wq2.heap.size := Nat.ne_of_lt Z8.lt
        have q8' : wq2.heap.size ≠ wq1.heap.size := Ne.symm q8
        have Z8 := Z8.since (since_alloc wq2 (.cells #[.bool false, .slice none 0 0] 30))
        have Z6 := Law03.Zero.fresh wq2 30
        have hb6 := hr0.size
        have hr0 := hr0.trans (since_alloc wq2 (.cells #[.bool false, .slice none 0 0] 30))
        refine Reg.wpG_ready (rs := [7]) (by kernel_rfl) (by simp) (fun wq3 k3' sq3 => ?_)
        have hr0 := hr0.trans k3'
        have Z8 := Z8.since k3'
        have Z6 := Z6.since k3'
        refine Reg.AllG.first (o := { dst := some 8, op := Op.alloc 30, type := 0, pos := "law.go:118", after := #[], guard := none }) rfl (by rfl) (fun K hK => ?_) Reg.AllG.nil
        · go_simp
          refine hK.out _ _ ?_ (since_alloc _ _) ?_
          · exact hSall.out _ ((hr0.trans (since_alloc _ _)))
          clear hK K
          try simp only [Act.put, List.setIfInBounds_toArray, List.set_cons_zero, List.set_cons_succ]
          have q8 : wq1.heap.size ≠ wq3.heap.size := Nat.ne_of_lt Z8.lt
          have q6 : wq2.heap.size ≠ wq3.heap.size := Nat.ne_of_lt Z6.lt
          have q8' : wq3.heap.size ≠ wq1.heap.size := Ne.symm q8
          have q6' : wq3.heap.size ≠ wq2.heap.size := Ne.symm q6
          have Z8 := Z8.since (since_alloc wq3 (.cells #[.bool false, .slice none 0 0] 30))
          have Z6 := Z6.since (since_alloc wq3 (.cells #[.bool false, .slice none 0 0] 30))
          have Z7 := Law03.Zero.fresh wq3 30
          have hb7 := hr0.size
          have hr0 := hr0.trans (since_alloc wq3 (.cells #[.bool false, .slice none 0 0] 30))
          refine Reg.wpG_ready (rs := [9]) (by kernel_rfl) (by simp) (fun wq4 k4' sq4 => ?_)
          have hr0 := hr0.trans k4'
          have Z8 := Z8.since k4'
          have Z6 := Z6.since k4'
          have Z7 := Z7.since k4'
          refine Reg.AllG.last (o := { dst := none, op := Op.store 30 (Operand.tmp 7) (Operand.tmp 32), type := 0, pos := "law.go:118", after := #[{ on := 6, ground := Ground.data }, { on := 1, ground := Ground.data }, { on := 5, ground := Ground.chain }, { on := 0, ground := Ground.phase }, { on := 1, ground := Ground.phase }, { on := 2, ground := Ground.textOnly Departure.lateStores }, { on := 3, ground := Ground.textOnly Departure.lateStoresUnsure }, { on := 4, ground := Ground.textOnly Departure.lateStores }, { on := 5, ground := Ground.textOnly Departure.lateStoresUnsure }, { on := 6, ground := Ground.phase }, { on := 7, ground := Ground.phase }, { on := 8, ground := Ground.phase }], guard := none }) rfl (by rfl) (fun K hK => ?_) Reg.AllG.nil
          obtain ⟨z8a, z8b, z8c, z8d⟩ := Z8
          obtain ⟨z6a, z6b, z6c, z6d⟩ := Z6
          obtain ⟨z7a, z7b, z7c, z7d⟩ := Z7
          go_simp
          refine hK.out _ _ ?_ (fun hHeld => ?_)
          · refine hSall.out _ ?_; repeat (first | (with_reducible assumption) | (with_reducible exact Since.refl _) | (with_reducible refine Since.alloc ?_ _) | (with_reducible refine Since.set ?_ ?_ _; rotate_left; first | (with_reducible exact Nat.le_refl _) | (with_reducible assumption) | (with_reducible exact hb8) | (with_reducible exact hb6) | (with_reducible exact hb7) | (with_reducible exact hby) | (dsimp only; omega)))
          clear hK K
          try simp only [Act.put, List.setIfInBounds_toArray, List.set_cons_zero, List.set_cons_succ]
          refine wpAnyH_ready (rs := [10]) (by kernel_rfl) (by simp) ?_
          refine AllReadyH.cons (o := { dst := none, op := Op.store 30 (Operand.tmp 8) (Operand.tmp 34), type := 0, pos := "law.go:118", after := #[{ on := 7, ground := Ground.data }, { on := 3, ground := Ground.data }, { on := 9, ground := Ground.chain }, { on := 0, ground := Ground.phase }, { on := 1, ground := Ground.phase }, { on := 2, ground := Ground.phase }, { on := 3, ground := Ground.phase }, { on := 4, ground := Ground.textOnly Departure.lateStores }, { on := 5, ground := Ground.textOnly Departure.lateStoresUnsure }, { on := 6, ground := Ground.phase }, { on := 7, ground := Ground.phase }, { on := 8, ground := Ground.phase }, { on := 9, ground := Ground.phase }], guard := none }) rfl (fun K hK => ?_) AllReadyH.nil
          · go_simp
            refine hK.out _ _ ?_ (fun hHeld => ?_)
            · refine hSall.out _ ?_; repeat (first | (with_reducible assumption) | (with_reducible exact Since.refl _) | (with_reducible refine Since.alloc ?_ _) | (with_reducible refine Since.set ?_ ?_ _; rotate_left; first | (with_reducible exact Nat.le_refl _) | (with_reducible assumption) | (with_reducible exact hb8) | (with_reducible exact hb6) | (with_reducible exact hb7) | (with_reducible exact hby) | (dsimp only; omega)))
            clear hK K
            try simp only [Act.put, List.setIfInBounds_toArray, List.set_cons_zero, List.set_cons_succ]
            refine wpAnyH_ready (rs := [11]) (by kernel_rfl) (by simp) ?_
            refine AllReadyH.cons (o := { dst := none, op := Op.store 30 (Operand.tmp 9) (Operand.tmp 36), type := 0, pos := "law.go:118", after := #[{ on := 8, ground := Ground.data }, { on := 5, ground := Ground.data }, { on := 10, ground := Ground.chain }, { on := 0, ground := Ground.phase }, { on := 1, ground := Ground.phase }, { on := 2, ground := Ground.phase }, { on := 3, ground := Ground.phase }, { on := 4, ground := Ground.phase }, { on := 5, ground := Ground.phase }, { on := 6, ground := Ground.phase }, { on := 7, ground := Ground.phase }, { on := 8, ground := Ground.phase }, { on := 9, ground := Ground.phase }, { on := 10, ground := Ground.phase }], guard := none }) rfl (fun K hK => ?_) AllReadyH.nil
            · go_simp
              refine hK.out _ _ ?_ (fun hHeld => ?_)
              · refine hSall.out _ ?_; repeat (first | (with_reducible assumption) | (with_reducible exact Since.refl _) | (with_reducible refine Since.alloc ?_ _) | (with_reducible refine Since.set ?_ ?_ _; rotate_left; first | (with_reducible exact Nat.le_refl _) | (with_reducible assumption) | (with_reducible exact hb8) | (with_reducible exact hb6) | (with_reducible exact hb7) | (with_reducible exact hby) | (dsimp only; omega)))
              clear hK K
              try simp only [Act.put, List.setIfInBounds_toArray, List.set_cons_zero, List.set_cons_succ]
              refine wpAnyH_done (by kernel_rfl) ?_ _
              refine NoPanic.normal ?_
              go_wp2_with fail
              go_meet
              refine ⟨_, _, _, rfl, rfl, rfl, ?_, ⟨?_, ?_⟩, ⟨?_, ?_⟩, ⟨?_, ?_⟩⟩
              · repeat (first | (with_reducible assumption) | (with_reducible exact Since.refl _) | (with_reducible refine Since.alloc ?_ _) | (with_reducible refine Since.set ?_ ?_ _; rotate_left; first | (with_reducible exact Nat.le_refl _) | (with_reducible assumption) | (with_reducible exact hb8) | (with_reducible exact hb6) | (with_reducible exact hb7) | (with_reducible exact hby) | (dsimp only; omega)))
              · go_simp
              · go_simp
              · go_simp
              · go_simp
              · go_simp
              · go_simp
      · go_simp
        refine hK.out _ _ ?_ (since_alloc _ _) ?_
        · exact hSall.out _ ((hr0.trans (since_alloc _ _)))
        clear hK K
        try simp only [Act.put, List.setIfInBounds_toArray, List.set_cons_zero, List.set_cons_succ]
        have q8 : wq1.heap.size ≠ wq2.heap.size := Nat.ne_of_lt Z8.lt
        have q8' : wq2.heap.size ≠ wq1.heap.size := Ne.symm q8
        have Z8 := Z8.since (since_alloc wq2 (.cells #[.bool false, .slice none 0 0] 30))
        have Z7 := Law03.Zero.fresh wq2 30
        have hb7 := hr0.size
        have hr0 := hr0.trans (since_alloc wq2 (.cells #[.bool false, .slice none 0 0] 30))
        refine Reg.wpG_ready (rs := [6]) (by kernel_rfl) (by simp) (fun wq3 k3' sq3 => ?_)
        have hr0 := hr0.trans k3'
        have Z8 := Z8.since k3'
        have Z7 := Z7.since k3'
        refine Reg.AllG.first (o := { dst := some 7, op := Op.alloc 30, type := 0, pos := "law.go:118", after := #[], guard := none }) rfl (by rfl) (fun K hK => ?_) Reg.AllG.nil
        · go_simp
          refine hK.out _ _ ?_ (since_alloc _ _) ?_
          · exact hSall.out _ ((hr0.trans (since_alloc _ _)))
          clear hK K
          try simp only [Act.put, List.setIfInBounds_toArray, List.set_cons_zero, List.set_cons_succ]
          have q8 : wq1.heap.size ≠ wq3.heap.size := Nat.ne_of_lt Z8.lt
          have q7 : wq2.heap.size ≠ wq3.heap.size := Nat.ne_of_lt Z7.lt
          have q8' : wq3.heap.size ≠ wq1.heap.size := Ne.symm q8
          have q7' : wq3.heap.size ≠ wq2.heap.size := Ne.symm q7
          have Z8 := Z8.since (since_alloc wq3 (.cells #[.bool false, .slice none 0 0] 30))
          have Z7 := Z7.since (since_alloc wq3 (.cells #[.bool false, .slice none 0 0] 30))
          have Z6 := Law03.Zero.fresh wq3 30
          have hb6 := hr0.size
          have hr0 := hr0.trans (since_alloc wq3 (.cells #[.bool false, .slice none 0 0] 30))
          refine Reg.wpG_ready (rs := [9]) (by kernel_rfl) (by simp) (fun wq4 k4' sq4 => ?_)
          have hr0 := hr0.trans k4'
          have Z8 := Z8.since k4'
          have Z7 := Z7.since k4'
          have Z6 := Z6.since k4'
          refine Reg.AllG.last (o := { dst := none, op := Op.store 30 (Operand.tmp 7) (Operand.tmp 32), type := 0, pos := "law.go:118", after := #[{ on := 6, ground := Ground.data }, { on := 1, ground := Ground.data }, { on := 5, ground := Ground.chain }, { on := 0, ground := Ground.phase }, { on := 1, ground := Ground.phase }, { on := 2, ground := Ground.textOnly Departure.lateStores }, { on := 3, ground := Ground.textOnly Departure.lateStoresUnsure }, { on := 4, ground := Ground.textOnly Departure.lateStores }, { on := 5, ground := Ground.textOnly Departure.lateStoresUnsure }, { on := 6, ground := Ground.phase }, { on := 7, ground := Ground.phase }, { on := 8, ground := Ground.phase }], guard := none }) rfl (by rfl) (fun K hK => ?_) Reg.AllG.nil
          obtain ⟨z8a, z8b, z8c, z8d⟩ := Z8
          obtain ⟨z7a, z7b, z7c, z7d⟩ := Z7
          obtain ⟨z6a, z6b, z6c, z6d⟩ := Z6
          go_simp
          refine hK.out _ _ ?_ (fun hHeld => ?_)
          · refine hSall.out _ ?_; repeat (first | (with_reducible assumption) | (with_reducible exact Since.refl _) | (with_reducible refine Since.alloc ?_ _) | (with_reducible refine Since.set ?_ ?_ _; rotate_left; first | (with_reducible exact Nat.le_refl _) | (with_reducible assumption) | (with_reducible exact hb8) | (with_reducible exact hb7) | (with_reducible exact hb6) | (with_reducible exact hby) | (dsimp only; omega)))
          clear hK K
          try simp only [Act.put, List.setIfInBounds_toArray, List.set_cons_zero, List.set_cons_succ]
          refine wpAnyH_ready (rs := [10]) (by kernel_rfl) (by simp) ?_
          refine AllReadyH.cons (o := { dst := none, op := Op.store 30 (Operand.tmp 8) (Operand.tmp 34), type := 0, pos := "law.go:118", after := #[{ on := 7, ground := Ground.data }, { on := 3, ground := Ground.data }, { on := 9, ground := Ground.chain }, { on := 0, ground := Ground.phase }, { on := 1, ground := Ground.phase }, { on := 2, ground := Ground.phase }, { on := 3, ground := Ground.phase }, { on := 4, ground := Ground.textOnly Departure.lateStores }, { on := 5, ground := Ground.textOnly Departure.lateStoresUnsure }, { on := 6, ground := Ground.phase }, { on := 7, ground := Ground.phase }, { on := 8, ground := Ground.phase }, { on := 9, ground := Ground.phase }], guard := none }) rfl (fun K hK => ?_) AllReadyH.nil
          · go_simp
            refine hK.out _ _ ?_ (fun hHeld => ?_)
            · refine hSall.out _ ?_; repeat (first | (with_reducible assumption) | (with_reducible exact Since.refl _) | (with_reducible refine Since.alloc ?_ _) | (with_reducible refine Since.set ?_ ?_ _; rotate_left; first | (with_reducible exact Nat.le_refl _) | (with_reducible assumption) | (with_reducible exact hb8) | (with_reducible exact hb7) | (with_reducible exact hb6) | (with_reducible exact hby) | (dsimp only; omega)))
            clear hK K
            try simp only [Act.put, List.setIfInBounds_toArray, List.set_cons_zero, List.set_cons_succ]
            refine wpAnyH_ready (rs := [11]) (by kernel_rfl) (by simp) ?_
            refine AllReadyH.cons (o := { dst := none, op := Op.store 30 (Operand.tmp 9) (Operand.tmp 36), type := 0, pos := "law.go:118", after := #[{ on := 8, ground := Ground.data }, { on := 5, ground := Ground.data }, { on := 10, ground := Ground.chain }, { on := 0, ground := Ground.phase }, { on := 1, ground := Ground.phase }, { on := 2, ground := Ground.phase }, { on := 3, ground := Ground.phase }, { on := 4, ground := Ground.phase }, { on := 5, ground := Ground.phase }, { on := 6, ground := Ground.phase }, { on := 7, ground := Ground.phase }, { on := 8, ground := Ground.phase }, { on := 9, ground := Ground.phase }, { on := 10, ground := Ground.phase }], guard := none }) rfl (fun K hK => ?_) AllReadyH.nil
            · go_simp
              refine hK.out _ _ ?_ (fun hHeld => ?_)
              · refine hSall.out _ ?_; repeat (first | (with_reducible assumption) | (with_reducible exact Since.refl _) | (with_reducible refine Since.alloc ?_ _) | (with_reducible refine Since.set ?_ ?_ _; rotate_left; first | (with_reducible exact Nat.le_refl _) | (with_reducible assumption) | (with_reducible exact hb8) | (with_reducible exact hb7) | (with_reducible exact hb6) | (with_reducible exact hby) | (dsimp only; omega)))
              clear hK K
              try simp only [Act.put, List.setIfInBounds_toArray, List.set_cons_zero, List.set_cons_succ]
              refine wpAnyH_done (by kernel_rfl) ?_ _
              refine NoPanic.normal ?_
              go_wp2_with fail
              go_meet
              refine ⟨_, _, _, rfl, rfl, rfl, ?_, ⟨?_, ?_⟩, ⟨?_, ?_⟩, ⟨?_, ?_⟩⟩
              · repeat (first | (with_reducible assumption) | (with_reducible exact Since.refl _) | (with_reducible refine Since.alloc ?_ _) | (with_reducible refine Since.set ?_ ?_ _; rotate_left; first | (with_reducible exact Nat.le_refl _) | (with_reducible assumption) | (with_reducible exact hb8) | (with_reducible exact hb7) | (with_reducible exact hb6) | (with_reducible exact hby) | (dsimp only; omega)))
              · go_simp
              · go_simp
              · go_simp
              · go_simp
              · go_simp
              · go_simp
  case rest =>
    obtain ⟨c0, c1, c2, rfl, rfl, rfl, hc, ⟨g0, g1⟩, ⟨g2, g3⟩, g4, g5⟩ := hcut
    have hS := hZ.trans hc
    have V0 : Hid (∀ W', Since wc W' → W'.cell? ⟨c0, 0, none⟩ = some (.bool b0) ∧ W'.cell? ⟨c0, 1, none⟩ = some (.slice a0 d0.length cap0)) := fun W' h => ⟨Law03.stays g0 h, Law03.stays g1 h⟩
    have V1 : Hid (∀ W', Since wc W' → W'.cell? ⟨c1, 0, none⟩ = some (.bool b1) ∧ W'.cell? ⟨c1, 1, none⟩ = some (.slice a1 d1.length cap1)) := fun W' h => ⟨Law03.stays g2 h, Law03.stays g3 h⟩
    have V2 : Hid (∀ W', Since wc W' → W'.cell? ⟨c2, 0, none⟩ = some (.bool b2) ∧ W'.cell? ⟨c2, 1, none⟩ = some (.slice a2 d2.length cap2)) := fun W' h => ⟨Law03.stays g4 h, Law03.stays g5 h⟩
    clear g0 g1 g2 g3 g4 g5 hc hZ
    have hK := Since.refl wc
    obtain ⟨e0, e0'⟩ := V0.out _ hK
    go_upto_region 10 with (first
      | (go_at_call 26; (with_reducible refine (neg_at a0 cap0 b0 d0 _ (R0.out.since (hS0.trans (hS.trans hK))) M0.out EN.out).mono ?_); rintro e y1 ⟨A1, q1, rfl, r1, h⟩; have hK := hK.trans h))
    obtain ⟨W9, hW9⟩ : ∃ W9, W9 = y1.alloc (.cells #[.bool (n 1), .slice A1 (s 1).length q1] 30) := ⟨_, rfl⟩
    rw [← hW9]
    have V3 : Hid (∀ W', Since W9 W' → W'.cell? ⟨y1.heap.size, 0, none⟩ = some (.bool (n 1)) ∧ W'.cell? ⟨y1.heap.size, 1, none⟩ = some (.slice A1 (s 1).length q1)) := fun W' h => by rw [hW9] at h; exact ⟨(keep2 h).1, (keep2 h).2.1⟩
    have hx : Since y1 W9 := by rw [hW9]; exact since_alloc _ _
    have hg := hK.trans hx
    have r1 := r1.since hx
    have V0 : Hid (∀ W', Since W9 W' → _) := fun W' h => V0.out W' (hg.trans h)
    have V1 : Hid (∀ W', Since W9 W' → _) := fun W' h => V1.out W' (hg.trans h)
    have V2 : Hid (∀ W', Since W9 W' → _) := fun W' h => V2.out W' (hg.trans h)
    have hS := hS.trans hg
    clear hW9 hx hg hK
    generalize y1.heap.size = bk3 at *
    have hK := Since.refl W9
    have hall : Hid (∀ W : World, Since W9 W → (W.cell? ⟨c0, 0, none⟩ = some (.bool b0) ∧ W.cell? ⟨c0, 1, none⟩ = some (.slice a0 d0.length cap0)) ∧ (W.cell? ⟨c1, 0, none⟩ = some (.bool b1) ∧ W.cell? ⟨c1, 1, none⟩ = some (.slice a1 d1.length cap1)) ∧ (W.cell? ⟨c2, 0, none⟩ = some (.bool b2) ∧ W.cell? ⟨c2, 1, none⟩ = some (.slice a2 d2.length cap2)) ∧ (W.cell? ⟨bk3, 0, none⟩ = some (.bool (n 1)) ∧ W.cell? ⟨bk3, 1, none⟩ = some (.slice A1 (s 1).length q1))) := fun W h => ⟨V0.out _ h, V1.out _ h, V2.out _ h, V3.out _ h⟩
    have hr0 : Since W9 W9.drew := Since.drew (Since.refl W9)
    have r1 := r1.since hr0
    refine wp_region_noPanic ?_
    refine Reg.wp_region_G (S := fun W => (W.cell? ⟨c0, 0, none⟩ = some (.bool b0) ∧ W.cell? ⟨c0, 1, none⟩ = some (.slice a0 d0.length cap0)) ∧ (W.cell? ⟨c1, 0, none⟩ = some (.bool b1) ∧ W.cell? ⟨c1, 1, none⟩ = some (.slice a1 d1.length cap1)) ∧ (W.cell? ⟨c2, 0, none⟩ = some (.bool b2) ∧ W.cell? ⟨c2, 1, none⟩ = some (.slice a2 d2.length cap2)) ∧ (W.cell? ⟨bk3, 0, none⟩ = some (.bool (n 1)) ∧ W.cell? ⟨bk3, 1, none⟩ = some (.slice A1 (s 1).length q1))) (fun j => [].contains j) (by kernel_rfl) ?_ ?_
    · exact hall.out _ hr0
    refine' Reg.wpG_take (i := 0) (oi := { dst := some 42, op := Op.move (Operand.tmp 14), type := 27, pos := "law.go:135", after := #[], guard := none }) (v := _) [1, 2, 3, 4, 5, 6, 7, 8, 9, 10, 11, 12, 13, 14, 15, 16, 17, 18, 19, 20, 21, 22, 23, 24, 25, 26, 27, 28, 29, 30, 31, 32, 33, 34, 35, 36, 37, 38, 39, 40, 41, 42, 43, 44, 45, 46, 47, 48, 49, 50, 51, 52, 53, 54, 55, 56, 57, 58, 59, 60, 61, 62, 63, 64, 65, 66, 67, 68, 69, 70, 71, 72, 73, 74, 75, 76, 77, 78, 79, 80, 81, 82, 83, 84, 85, 86, 87, 88, 89, 90, 91, 92] [] rfl rfl (by kernel_rfl) (by kernel_rfl) (by kernel_rfl) (by kernel_rfl) (by kernel_rfl) (by kernel_rfl) (by kernel_rfl) (fun _ _ _ h => h) (Or.inl ⟨by rfl, Or.inl ?hy4⟩) ?rest4
    case hy4 => (intro w' kk ss; (try dsimp only at ss); go_simp; first | done | with_reducible rfl)
    try simp only [Act.put, List.setIfInBounds_toArray, List.set_cons_zero, List.set_cons_succ]
    refine' Reg.wpG_take (i := 1) (oi := { dst := some 43, op := Op.binOp BinOp.eql 27 (Operand.tmp 42) (Operand.const (Value.int IntKind.i64 0)) 27, type := 4, pos := "law.go:135", after := #[{ on := 0, ground := Ground.data }], guard := none }) (v := _) [2, 3, 4, 5, 6, 7, 8, 9, 10, 11, 12, 13, 14, 15, 16, 17, 18, 19, 20, 21, 22, 23, 24, 25, 26, 27, 28, 29, 30, 31, 32, 33, 34, 35, 36, 37, 38, 39, 40, 41, 42, 43, 44, 45, 46, 47, 48, 49, 50, 51, 52, 53, 54, 55, 56, 57, 58, 59, 60, 61, 62, 63, 64, 65, 66, 67, 68, 69, 70, 71, 72, 73, 74, 75, 76, 77, 78, 79, 80, 81, 82, 83, 84, 85, 86, 87, 88, 89, 90, 91, 92] [] rfl rfl (by kernel_rfl) (by kernel_rfl) (by kernel_rfl) (by kernel_rfl) (by kernel_rfl) (by kernel_rfl) (by kernel_rfl) (fun _ _ _ h => h) (Or.inl ⟨by rfl, Or.inl ?hy5⟩) ?rest5
    case hy5 => (intro w' kk ss; (try dsimp only at ss); go_simp; first | done | with_reducible rfl)
    try simp only [Act.put, List.setIfInBounds_toArray, List.set_cons_zero, List.set_cons_succ]
    refine' Reg.wpG_take (i := 2) (oi := { dst := some 44, op := Op.move (Operand.tmp 43), type := 4, pos := "law.go:135", after := #[{ on := 1, ground := Ground.data }], guard := none }) (v := _) [3, 4, 5, 6, 7, 8, 9, 10, 11, 12, 13, 14, 15, 16, 17, 18, 19, 20, 21, 22, 23, 24, 25, 26, 27, 28, 29, 30, 31, 32, 33, 34, 35, 36, 37, 38, 39, 40, 41, 42, 43, 44, 45, 46, 47, 48, 49, 50, 51, 52, 53, 54, 55, 56, 57, 58, 59, 60, 61, 62, 63, 64, 65, 66, 67, 68, 69, 70, 71, 72, 73, 74, 75, 76, 77, 78, 79, 80, 81, 82, 83, 84, 85, 86, 87, 88, 89, 90, 91, 92] [] rfl rfl (by kernel_rfl) (by kernel_rfl) (by kernel_rfl) (by kernel_rfl) (by kernel_rfl) (by kernel_rfl) (by kernel_rfl) (fun _ _ _ h => h) (Or.inl ⟨by rfl, Or.inl ?hy6⟩) ?rest6
    case hy6 => (intro w' kk ss; (try dsimp only at ss); go_simp; first | done | with_reducible rfl)
    try simp only [Act.put, List.setIfInBounds_toArray, List.set_cons_zero, List.set_cons_succ]
    refine' Reg.wpG_take (i := 3) (oi := { dst := some 45, op := Op.move (Operand.tmp 12), type := 56, pos := "law.go:135", after := #[{ on := 2, ground := Ground.guard }], guard := some (2, true) }) (v := _) [9, 10, 11, 12, 13, 14, 15, 16, 17, 18, 19, 20, 21, 22, 23, 24, 25, 26, 27, 28, 29, 30, 31, 32, 33, 34, 35, 36, 37, 38, 39, 40, 41, 42, 43, 44, 45, 46, 47, 48, 49, 50, 51, 52, 53, 54, 55, 56, 57, 58, 59, 60, 61, 62, 63, 64, 65, 66, 67, 68, 69, 70, 71, 72, 73, 74, 75, 76, 77, 78, 79, 80, 81, 82, 83, 84, 85, 86, 87, 88, 89, 90, 91, 92] [] rfl rfl (by kernel_rfl) (by kernel_rfl) (by kernel_rfl) (by kernel_rfl) (by kernel_rfl) (by kernel_rfl) (by kernel_rfl) (fun _ _ _ h => h) (Or.inl ⟨by rfl, Or.inl ?hy7⟩) ?rest7
    case hy7 => (intro w' kk ss; (try dsimp only at ss); go_simp; first | done | with_reducible rfl)
    try simp only [Act.put, List.setIfInBounds_toArray, List.set_cons_zero, List.set_cons_succ]
    refine' Reg.wpG_take (i := 4) (oi := { dst := some 46, op := Op.move (Operand.tmp 10), type := 55, pos := "law.go:135", after := #[{ on := 2, ground := Ground.guard }], guard := some (2, true) }) (v := _) [7, 9, 10, 11, 12, 13, 14, 15, 16, 17, 18, 19, 20, 21, 22, 23, 24, 25, 26, 27, 28, 29, 30, 31, 32, 33, 34, 35, 36, 37, 38, 39, 40, 41, 42, 43, 44, 45, 46, 47, 48, 49, 50, 51, 52, 53, 54, 55, 56, 57, 58, 59, 60, 61, 62, 63, 64, 65, 66, 67, 68, 69, 70, 71, 72, 73, 74, 75, 76, 77, 78, 79, 80, 81, 82, 83, 84, 85, 86, 87, 88, 89, 90, 91, 92] [] rfl rfl (by kernel_rfl) (by kernel_rfl) (by kernel_rfl) (by kernel_rfl) (by kernel_rfl) (by kernel_rfl) (by kernel_rfl) (fun _ _ _ h => h) (Or.inl ⟨by rfl, Or.inl ?hy8⟩) ?rest8
    case hy8 => (intro w' kk ss; (try dsimp only at ss); go_simp; first | done | with_reducible rfl)
    try simp only [Act.put, List.setIfInBounds_toArray, List.set_cons_zero, List.set_cons_succ]
    refine' Reg.wpG_take (i := 5) (oi := { dst := some 47, op := Op.load 30 (Operand.tmp 7), type := 30, pos := "law.go:135", after := #[{ on := 2, ground := Ground.guard }], guard := some (2, true) }) (v := _) [7, 9, 10, 11, 12, 13, 14, 15, 16, 17, 18, 19, 20, 21, 22, 23, 24, 25, 26, 27, 28, 29, 30, 31, 32, 33, 34, 35, 36, 37, 38, 39, 40, 41, 42, 43, 44, 45, 46, 47, 48, 49, 50, 51, 52, 53, 54, 55, 56, 57, 58, 59, 60, 61, 62, 63, 64, 65, 66, 67, 68, 69, 70, 71, 72, 73, 74, 75, 76, 77, 78, 79, 80, 81, 82, 83, 84, 85, 86, 87, 88, 89, 90, 91, 92] [] rfl rfl (by kernel_rfl) (by kernel_rfl) (by kernel_rfl) (by kernel_rfl) (by kernel_rfl) (by kernel_rfl) (by kernel_rfl) (fun _ _ _ h => h) (Or.inl ⟨by rfl, Or.inl ?hy9⟩) ?rest9
    case hy9 => (intro w' kk ss; (try dsimp only at ss); go_simp; first | done | with_reducible rfl)
    try simp only [Act.put, List.setIfInBounds_toArray, List.set_cons_zero, List.set_cons_succ]
    refine' Reg.wpG_take (i := 6) (oi := { dst := some 48, op := Op.load 30 (Operand.tmp 13), type := 30, pos := "law.go:135", after := #[{ on := 2, ground := Ground.guard }], guard := some (2, true) }) (v := _) [7, 9, 10, 11, 12, 13, 14, 15, 16, 17, 18, 19, 20, 21, 22, 23, 24, 25, 26, 27, 28, 29, 30, 31, 32, 33, 34, 35, 36, 37, 38, 39, 40, 41, 42, 43, 44, 45, 46, 47, 48, 49, 50, 51, 52, 53, 54, 55, 56, 57, 58, 59, 60, 61, 62, 63, 64, 65, 66, 67, 68, 69, 70, 71, 72, 73, 74, 75, 76, 77, 78, 79, 80, 81, 82, 83, 84, 85, 86, 87, 88, 89, 90, 91, 92] [] rfl rfl (by kernel_rfl) (by kernel_rfl) (by kernel_rfl) (by kernel_rfl) (by kernel_rfl) (by kernel_rfl) (by kernel_rfl) (fun _ _ _ h => h) (Or.inl ⟨by rfl, Or.inl ?hy10⟩) ?rest10
    case hy10 => (intro w' kk ss; (try dsimp only at ss); go_simp; first | done | with_reducible rfl)
    try simp only [Act.put, List.setIfInBounds_toArray, List.set_cons_zero, List.set_cons_succ]
    refine' Reg.wpG_take (i := 8) (oi := { dst := some 50, op := Op.build 30 #[], type := 30, pos := "law.go:135", after := #[{ on := 2, ground := Ground.guard }], guard := some (2, true) }) (v := _) [9, 10, 11, 12, 13, 14, 15, 16, 17, 18, 19, 20, 21, 22, 23, 24, 25, 26, 27, 28, 29, 30, 31, 32, 33, 34, 35, 36, 37, 38, 39, 40, 41, 42, 43, 44, 45, 46, 47, 48, 49, 50, 51, 52, 53, 54, 55, 56, 57, 58, 59, 60, 61, 62, 63, 64, 65, 66, 67, 68, 69, 70, 71, 72, 73, 74, 75, 76, 77, 78, 79, 80, 81, 82, 83, 84, 85, 86, 87, 88, 89, 90, 91, 92] [] rfl rfl (by kernel_rfl) (by kernel_rfl) (by kernel_rfl) (by kernel_rfl) (by kernel_rfl) (by kernel_rfl) (by kernel_rfl) (fun _ _ _ h => h) (Or.inl ⟨by rfl, Or.inl ?hy11⟩) ?rest11
    case hy11 => (intro w' kk ss; (try dsimp only at ss); go_simp; first | done | with_reducible rfl)
    try simp only [Act.put, List.setIfInBounds_toArray, List.set_cons_zero, List.set_cons_succ]
    refine Reg.wpG_ready (rs := [7]) (by kernel_rfl) (by simp) (fun wq1 k1' sq1 => ?_)
    have hr0 := hr0.trans k1'
    have r1 := r1.since k1'
    refine Reg.AllG.first (o := { dst := some 49, op := Op.call { callee := Callee.value (Operand.tmp 46), args := #[Operand.tmp 47, Operand.tmp 48], argTypes := #[30, 30] }, type := 30, pos := "law.go:135", after := #[{ on := 4, ground := Ground.data }, { on := 5, ground := Ground.data }, { on := 6, ground := Ground.data }, { on := 2, ground := Ground.chain }, { on := 2, ground := Ground.guard }], guard := some (2, true) }) rfl (by rfl) (fun K hK => ?_) Reg.AllG.nil
    obtain ⟨⟨o0, o1⟩, ⟨o2, o3⟩, ⟨o4, o5⟩, o6, o7⟩ := hall.out _ hr0
    go_simp
    (with_reducible refine (Law03.addc_any a0 A1 cap0 q1 b0 (n 1) d0 (s 1) wq1 (R0.out.since (hS0.trans (hS.trans hr0))) (r1) M0.out (LEN.out 1) EA.out).mono ?_)
    rintro e y101 ⟨B1, p1, rfl, t1, hx⟩
    refine hK.out _ _ ?_ hx ?_
    · exact hall.out _ (hr0.trans hx)
    clear hK K o0 o1 o2 o3 o4 o5 o6 o7
    have hr0 := hr0.trans hx
    have r1 := r1.since hx
    clear hx
    try simp only [Act.put, List.setIfInBounds_toArray, List.set_cons_zero, List.set_cons_succ]
    as_aux_lemma =>
      refine Reg.wpG_take (i := 9) (oi := { dst := some 51, op := Op.call { callee := Callee.value (Operand.tmp 45), args := #[Operand.tmp 49, Operand.tmp 50], argTypes := #[30, 30] }, type := 4, pos := "law.go:135", after := #[{ on := 3, ground := Ground.data }, { on := 7, ground := Ground.data }, { on := 8, ground := Ground.data }, { on := 7, ground := Ground.chain }, { on := 2, ground := Ground.guard }], guard := some (2, true) }) (v := .bool true) [10, 11, 12, 13, 14, 15, 16, 17, 18, 19, 20, 21, 22, 23, 24, 25, 26, 27, 28, 29, 30, 31, 32, 33, 34, 35, 36, 37, 38, 39, 40, 41, 42, 43, 44, 45, 46, 47, 48, 49, 50, 51, 52, 53, 54, 55, 56, 57, 58, 59, 60, 61, 62, 63, 64, 65, 66, 67, 68, 69, 70, 71, 72, 73, 74, 75, 76, 77, 78, 79, 80, 81, 82, 83, 84, 85, 86, 87, 88, 89, 90, 91, 92] [] rfl rfl (by kernel_rfl) (by kernel_rfl) (by kernel_rfl) (by kernel_rfl) (by kernel_rfl) (by kernel_rfl) (by kernel_rfl) (fun _ _ _ h => h) (Or.inl ⟨by rfl, Or.inr ⟨35, #[sv false (.slice B1 ([] : List Nat).length p1), sv false (.slice none ([] : List Nat).length 0)], fun w' kk ss => ⟨?_, ?_⟩⟩⟩) ?_
      · (try dsimp only at ss); go_simp
      · exact (Law03.samec_any B1 none p1 0 false ([] : List Nat) w' (t1.since kk) (Row.nil _) (by simp) (by rfl)).mono fun e w'' h => ⟨h.1, h.2, hall.out _ (hr0.trans (kk.trans h.2))⟩
      try simp only [Act.put, List.setIfInBounds_toArray, List.set_cons_zero, List.set_cons_succ]
      refine' Reg.wpG_take (i := 10) (oi := { dst := some 52, op := Op.pick (Operand.tmp 44) (Operand.tmp 51) (Operand.const (Value.bool false)), type := 4, pos := "law.go:135", after := #[{ on := 2, ground := Ground.data }, { on := 9, ground := Ground.data }], guard := none }) (v := _) [11, 12, 13, 14, 15, 16, 17, 18, 19, 20, 21, 22, 23, 24, 25, 26, 27, 28, 29, 30, 31, 32, 33, 34, 35, 36, 37, 38, 39, 40, 41, 42, 43, 44, 45, 46, 47, 48, 49, 50, 51, 52, 53, 54, 55, 56, 57, 58, 59, 60, 61, 62, 63, 64, 65, 66, 67, 68, 69, 70, 71, 72, 73, 74, 75, 76, 77, 78, 79, 80, 81, 82, 83, 84, 85, 86, 87, 88, 89, 90, 91, 92] [] rfl rfl (by kernel_rfl) (by kernel_rfl) (by kernel_rfl) (by kernel_rfl) (by kernel_rfl) (by kernel_rfl) (by kernel_rfl) (fun _ _ _ h => h) (Or.inl ⟨by rfl, Or.inl ?hy12⟩) ?rest12
      case hy12 => (intro w' kk ss; (try dsimp only at ss); go_simp; first | done | with_reducible rfl)
      try simp only [Act.put, List.setIfInBounds_toArray, List.set_cons_zero, List.set_cons_succ]
      refine' Reg.wpG_take (i := 11) (oi := { dst := some 53, op := Op.move (Operand.tmp 52), type := 4, pos := "law.go:135", after := #[{ on := 10, ground := Ground.data }, { on := 9, ground := Ground.chain }], guard := none }) (v := _) [12, 13, 14, 15, 16, 17, 18, 19, 20, 21, 22, 23, 24, 25, 26, 27, 28, 29, 30, 31, 32, 33, 34, 35, 36, 37, 38, 39, 40, 41, 42, 43, 44, 45, 46, 47, 48, 49, 50, 51, 52, 53, 54, 55, 56, 57, 58, 59, 60, 61, 62, 63, 64, 65, 66, 67, 68, 69, 70, 71, 72, 73, 74, 75, 76, 77, 78, 79, 80, 81, 82, 83, 84, 85, 86, 87, 88, 89, 90, 91, 92] [] rfl rfl (by kernel_rfl) (by kernel_rfl) (by kernel_rfl) (by kernel_rfl) (by kernel_rfl) (by kernel_rfl) (by kernel_rfl) (fun _ _ _ h => h) (Or.inl ⟨by rfl, Or.inl ?hy13⟩) ?rest13
      case hy13 => (intro w' kk ss; (try dsimp only at ss); go_simp; first | done | with_reducible rfl)
      try simp only [Act.put, List.setIfInBounds_toArray, List.set_cons_zero, List.set_cons_succ]
      refine' Reg.wpG_take (i := 12) (oi := { dst := some 54, op := Op.move (Operand.tmp 12), type := 56, pos := "law.go:135", after := #[{ on := 11, ground := Ground.guard }], guard := some (11, true) }) (v := _) [21, 22, 23, 24, 25, 26, 27, 28, 29, 30, 31, 32, 33, 34, 35, 36, 37, 38, 39, 40, 41, 42, 43, 44, 45, 46, 47, 48, 49, 50, 51, 52, 53, 54, 55, 56, 57, 58, 59, 60, 61, 62, 63, 64, 65, 66, 67, 68, 69, 70, 71, 72, 73, 74, 75, 76, 77, 78, 79, 80, 81, 82, 83, 84, 85, 86, 87, 88, 89, 90, 91, 92] [] rfl rfl (by kernel_rfl) (by kernel_rfl) (by kernel_rfl) (by kernel_rfl) (by kernel_rfl) (by kernel_rfl) (by kernel_rfl) (fun _ _ _ h => h) (Or.inl ⟨by rfl, Or.inl ?hy14⟩) ?rest14
      case hy14 => (intro w' kk ss; (try dsimp only at ss); go_simp; first | done | with_reducible rfl)
      try simp only [Act.put, List.setIfInBounds_toArray, List.set_cons_zero, List.set_cons_succ]
      refine' Reg.wpG_take (i := 13) (oi := { dst := some 55, op := Op.move (Operand.tmp 10), type := 55, pos := "law.go:135", after := #[{ on := 11, ground := Ground.guard }], guard := some (11, true) }) (v := _) [16, 20, 21, 22, 23, 24, 25, 26, 27, 28, 29, 30, 31, 32, 33, 34, 35, 36, 37, 38, 39, 40, 41, 42, 43, 44, 45, 46, 47, 48, 49, 50, 51, 52, 53, 54, 55, 56, 57, 58, 59, 60, 61, 62, 63, 64, 65, 66, 67, 68, 69, 70, 71, 72, 73, 74, 75, 76, 77, 78, 79, 80, 81, 82, 83, 84, 85, 86, 87, 88, 89, 90, 91, 92] [] rfl rfl (by kernel_rfl) (by kernel_rfl) (by kernel_rfl) (by kernel_rfl) (by kernel_rfl) (by kernel_rfl) (by kernel_rfl) (fun _ _ _ h => h) (Or.inl ⟨by rfl, Or.inl ?hy15⟩) ?rest15
      case hy15 => (intro w' kk ss; (try dsimp only at ss); go_simp; first | done | with_reducible rfl)
      try simp only [Act.put, List.setIfInBounds_toArray, List.set_cons_zero, List.set_cons_succ]
      refine' Reg.wpG_take (i := 14) (oi := { dst := some 56, op := Op.load 30 (Operand.tmp 7), type := 30, pos := "law.go:135", after := #[{ on := 11, ground := Ground.guard }], guard := some (11, true) }) (v := _) [16, 20, 21, 22, 23, 24, 25, 26, 27, 28, 29, 30, 31, 32, 33, 34, 35, 36, 37, 38, 39, 40, 41, 42, 43, 44, 45, 46, 47, 48, 49, 50, 51, 52, 53, 54, 55, 56, 57, 58, 59, 60, 61, 62, 63, 64, 65, 66, 67, 68, 69, 70, 71, 72, 73, 74, 75, 76, 77, 78, 79, 80, 81, 82, 83, 84, 85, 86, 87, 88, 89, 90, 91, 92] [] rfl rfl (by kernel_rfl) (by kernel_rfl) (by kernel_rfl) (by kernel_rfl) (by kernel_rfl) (by kernel_rfl) (by kernel_rfl) (fun _ _ _ h => h) (Or.inl ⟨by rfl, Or.inl ?hy16⟩) ?rest16
      case hy16 => (intro w' kk ss; (try dsimp only at ss); go_simp; first | done | with_reducible rfl)
      try simp only [Act.put, List.setIfInBounds_toArray, List.set_cons_zero, List.set_cons_succ]
      refine' Reg.wpG_take (i := 15) (oi := { dst := some 57, op := Op.load 30 (Operand.tmp 8), type := 30, pos := "law.go:135", after := #[{ on := 11, ground := Ground.guard }], guard := some (11, true) }) (v := _) [16, 20, 21, 22, 23, 24, 25, 26, 27, 28, 29, 30, 31, 32, 33, 34, 35, 36, 37, 38, 39, 40, 41, 42, 43, 44, 45, 46, 47, 48, 49, 50, 51, 52, 53, 54, 55, 56, 57, 58, 59, 60, 61, 62, 63, 64, 65, 66, 67, 68, 69, 70, 71, 72, 73, 74, 75, 76, 77, 78, 79, 80, 81, 82, 83, 84, 85, 86, 87, 88, 89, 90, 91, 92] [] rfl rfl (by kernel_rfl) (by kernel_rfl) (by kernel_rfl) (by kernel_rfl) (by kernel_rfl) (by kernel_rfl) (by kernel_rfl) (fun _ _ _ h => h) (Or.inl ⟨by rfl, Or.inl ?hy17⟩) ?rest17
      case hy17 => (intro w' kk ss; (try dsimp only at ss); go_simp; first | done | with_reducible rfl)
      try simp only [Act.put, List.setIfInBounds_toArray, List.set_cons_zero, List.set_cons_succ]
      refine' Reg.wpG_take (i := 17) (oi := { dst := some 59, op := Op.move (Operand.tmp 10), type := 55, pos := "law.go:135", after := #[{ on := 11, ground := Ground.guard }], guard := some (11, true) }) (v := _) [20, 21, 22, 23, 24, 25, 26, 27, 28, 29, 30, 31, 32, 33, 34, 35, 36, 37, 38, 39, 40, 41, 42, 43, 44, 45, 46, 47, 48, 49, 50, 51, 52, 53, 54, 55, 56, 57, 58, 59, 60, 61, 62, 63, 64, 65, 66, 67, 68, 69, 70, 71, 72, 73, 74, 75, 76, 77, 78, 79, 80, 81, 82, 83, 84, 85, 86, 87, 88, 89, 90, 91, 92] [] rfl rfl (by kernel_rfl) (by kernel_rfl) (by kernel_rfl) (by kernel_rfl) (by kernel_rfl) (by kernel_rfl) (by kernel_rfl) (fun _ _ _ h => h) (Or.inl ⟨by rfl, Or.inl ?hy18⟩) ?rest18
      case hy18 => (intro w' kk ss; (try dsimp only at ss); go_simp; first | done | with_reducible rfl)
      try simp only [Act.put, List.setIfInBounds_toArray, List.set_cons_zero, List.set_cons_succ]
      refine' Reg.wpG_take (i := 18) (oi := { dst := some 60, op := Op.load 30 (Operand.tmp 8), type := 30, pos := "law.go:135", after := #[{ on := 11, ground := Ground.guard }], guard := some (11, true) }) (v := _) [20, 21, 22, 23, 24, 25, 26, 27, 28, 29, 30, 31, 32, 33, 34, 35, 36, 37, 38, 39, 40, 41, 42, 43, 44, 45, 46, 47, 48, 49, 50, 51, 52, 53, 54, 55, 56, 57, 58, 59, 60, 61, 62, 63, 64, 65, 66, 67, 68, 69, 70, 71, 72, 73, 74, 75, 76, 77, 78, 79, 80, 81, 82, 83, 84, 85, 86, 87, 88, 89, 90, 91, 92] [] rfl rfl (by kernel_rfl) (by kernel_rfl) (by kernel_rfl) (by kernel_rfl) (by kernel_rfl) (by kernel_rfl) (by kernel_rfl) (fun _ _ _ h => h) (Or.inl ⟨by rfl, Or.inl ?hy19⟩) ?rest19
      case hy19 => (intro w' kk ss; (try dsimp only at ss); go_simp; first | done | with_reducible rfl)
      try simp only [Act.put, List.setIfInBounds_toArray, List.set_cons_zero, List.set_cons_succ]
      refine' Reg.wpG_take (i := 19) (oi := { dst := some 61, op := Op.load 30 (Operand.tmp 7), type := 30, pos := "law.go:135", after := #[{ on := 11, ground := Ground.guard }], guard := some (11, true) }) (v := _) [20, 21, 22, 23, 24, 25, 26, 27, 28, 29, 30, 31, 32, 33, 34, 35, 36, 37, 38, 39, 40, 41, 42, 43, 44, 45, 46, 47, 48, 49, 50, 51, 52, 53, 54, 55, 56, 57, 58, 59, 60, 61, 62, 63, 64, 65, 66, 67, 68, 69, 70, 71, 72, 73, 74, 75, 76, 77, 78, 79, 80, 81, 82, 83, 84, 85, 86, 87, 88, 89, 90, 91, 92] [] rfl rfl (by kernel_rfl) (by kernel_rfl) (by kernel_rfl) (by kernel_rfl) (by kernel_rfl) (by kernel_rfl) (by kernel_rfl) (fun _ _ _ h => h) (Or.inl ⟨by rfl, Or.inl ?hy20⟩) ?rest20
      case hy20 => (intro w' kk ss; (try dsimp only at ss); go_simp; first | done | with_reducible rfl)
      try simp only [Act.put, List.setIfInBounds_toArray, List.set_cons_zero, List.set_cons_succ]
      refine Reg.wpG_ready (rs := [16]) (by kernel_rfl) (by simp) (fun wq2 k2' sq2 => ?_)
      have hr0 := hr0.trans k2'
      have r1 := r1.since k2'
      refine Reg.AllG.first (o := { dst := some 58, op := Op.call { callee := Callee.value (Operand.tmp 55), args := #[Operand.tmp 56, Operand.tmp 57], argTypes := #[30, 30] }, type := 30, pos := "law.go:135", after := #[{ on := 13, ground := Ground.data }, { on := 14, ground := Ground.data }, { on := 15, ground := Ground.data }, { on := 11, ground := Ground.chain }, { on := 11, ground := Ground.guard }], guard := some (11, true) }) rfl (by rfl) (fun K hK => ?_) Reg.AllG.nil
      obtain ⟨⟨o0, o1⟩, ⟨o2, o3⟩, ⟨o4, o5⟩, o6, o7⟩ := hall.out _ hr0
      go_simp
      (with_reducible refine (Law03.addc_any a0 a1 cap0 cap1 b0 b1 d0 d1 wq2 (R0.out.since (hS0.trans (hS.trans hr0))) (R1.out.since (hS0.trans (hS.trans hr0))) M0.out M1.out E2a.out).mono ?_)
      rintro e y102 ⟨B2, p2, rfl, t2, hx⟩
      refine hK.out _ _ ?_ hx ?_
      · exact hall.out _ (hr0.trans hx)
      clear hK K o0 o1 o2 o3 o4 o5 o6 o7
      have hr0 := hr0.trans hx
      have r1 := r1.since hx
      clear hx
      try simp only [Act.put, List.setIfInBounds_toArray, List.set_cons_zero, List.set_cons_succ]
      as_aux_lemma =>
        refine Reg.wpG_ready (rs := [20]) (by kernel_rfl) (by simp) (fun wq3 k3' sq3 => ?_)
        have hr0 := hr0.trans k3'
        have r1 := r1.since k3'
        have t2 := t2.since k3'
        refine Reg.AllG.first (o := { dst := some 62, op := Op.call { callee := Callee.value (Operand.tmp 59), args := #[Operand.tmp 60, Operand.tmp 61], argTypes := #[30, 30] }, type := 30, pos := "law.go:135", after := #[{ on := 17, ground := Ground.data }, { on := 18, ground := Ground.data }, { on := 19, ground := Ground.data }, { on := 16, ground := Ground.chain }, { on := 11, ground := Ground.guard }], guard := some (11, true) }) rfl (by rfl) (fun K hK => ?_) Reg.AllG.nil
        obtain ⟨⟨o0, o1⟩, ⟨o2, o3⟩, ⟨o4, o5⟩, o6, o7⟩ := hall.out _ hr0
        go_simp
        (with_reducible refine (Law03.addc_any a1 a0 cap1 cap0 b1 b0 d1 d0 wq3 (R1.out.since (hS0.trans (hS.trans hr0))) (R0.out.since (hS0.trans (hS.trans hr0))) M1.out M0.out E2b.out).mono ?_)
        rintro e y103 ⟨B3, p3, rfl, t3, hx⟩
        refine hK.out _ _ ?_ hx ?_
        · exact hall.out _ (hr0.trans hx)
        clear hK K o0 o1 o2 o3 o4 o5 o6 o7
        have hr0 := hr0.trans hx
        have r1 := r1.since hx
        have t2 := t2.since hx
        clear hx
        try simp only [Act.put, List.setIfInBounds_toArray, List.set_cons_zero, List.set_cons_succ]
        as_aux_lemma =>
          refine Reg.wpG_take (i := 21) (oi := { dst := some 63, op := Op.call { callee := Callee.value (Operand.tmp 54), args := #[Operand.tmp 58, Operand.tmp 62], argTypes := #[30, 30] }, type := 4, pos := "law.go:135", after := #[{ on := 12, ground := Ground.data }, { on := 16, ground := Ground.data }, { on := 20, ground := Ground.data }, { on := 20, ground := Ground.chain }, { on := 11, ground := Ground.guard }], guard := some (11, true) }) (v := .bool true) [22, 23, 24, 25, 26, 27, 28, 29, 30, 31, 32, 33, 34, 35, 36, 37, 38, 39, 40, 41, 42, 43, 44, 45, 46, 47, 48, 49, 50, 51, 52, 53, 54, 55, 56, 57, 58, 59, 60, 61, 62, 63, 64, 65, 66, 67, 68, 69, 70, 71, 72, 73, 74, 75, 76, 77, 78, 79, 80, 81, 82, 83, 84, 85, 86, 87, 88, 89, 90, 91, 92] [] rfl rfl (by kernel_rfl) (by kernel_rfl) (by kernel_rfl) (by kernel_rfl) (by kernel_rfl) (by kernel_rfl) (by kernel_rfl) (fun _ _ _ h => h) (Or.inl ⟨by rfl, Or.inr ⟨35, #[sv (n 2) (.slice B2 (s 2).length p2), sv (n 2) (.slice B3 (s 2).length p3)], fun w' kk ss => ⟨?_, ?_⟩⟩⟩) ?_
          · (try dsimp only at ss); go_simp
          · exact (Law03.samec_any B2 B3 p2 p3 (n 2) (s 2) w' (t2.since kk) (t3.since kk) (LEN.out 2) (RGT.out 2)).mono fun e w'' h => ⟨h.1, h.2, hall.out _ (hr0.trans (kk.trans h.2))⟩
          try simp only [Act.put, List.setIfInBounds_toArray, List.set_cons_zero, List.set_cons_succ]
          refine' Reg.wpG_take (i := 22) (oi := { dst := some 64, op := Op.pick (Operand.tmp 53) (Operand.tmp 63) (Operand.const (Value.bool false)), type := 4, pos := "law.go:135", after := #[{ on := 11, ground := Ground.data }, { on := 21, ground := Ground.data }], guard := none }) (v := _) [23, 24, 25, 26, 27, 28, 29, 30, 31, 32, 33, 34, 35, 36, 37, 38, 39, 40, 41, 42, 43, 44, 45, 46, 47, 48, 49, 50, 51, 52, 53, 54, 55, 56, 57, 58, 59, 60, 61, 62, 63, 64, 65, 66, 67, 68, 69, 70, 71, 72, 73, 74, 75, 76, 77, 78, 79, 80, 81, 82, 83, 84, 85, 86, 87, 88, 89, 90, 91, 92] [] rfl rfl (by kernel_rfl) (by kernel_rfl) (by kernel_rfl) (by kernel_rfl) (by kernel_rfl) (by kernel_rfl) (by kernel_rfl) (fun _ _ _ h => h) (Or.inl ⟨by rfl, Or.inl ?hy21⟩) ?rest21
          case hy21 => (intro w' kk ss; (try dsimp only at ss); go_simp; first | done | with_reducible rfl)
          try simp only [Act.put, List.setIfInBounds_toArray, List.set_cons_zero, List.set_cons_succ]
          refine' Reg.wpG_take (i := 23) (oi := { dst := some 65, op := Op.move (Operand.tmp 64), type := 4, pos := "law.go:135", after := #[{ on := 22, ground := Ground.data }, { on := 21, ground := Ground.chain }], guard := none }) (v := _) [24, 25, 26, 27, 28, 29, 30, 31, 32, 33, 34, 35, 36, 37, 38, 39, 40, 41, 42, 43, 44, 45, 46, 47, 48, 49, 50, 51, 52, 53, 54, 55, 56, 57, 58, 59, 60, 61, 62, 63, 64, 65, 66, 67, 68, 69, 70, 71, 72, 73, 74, 75, 76, 77, 78, 79, 80, 81, 82, 83, 84, 85, 86, 87, 88, 89, 90, 91, 92] [] rfl rfl (by kernel_rfl) (by kernel_rfl) (by kernel_rfl) (by kernel_rfl) (by kernel_rfl) (by kernel_rfl) (by kernel_rfl) (fun _ _ _ h => h) (Or.inl ⟨by rfl, Or.inl ?hy22⟩) ?rest22
          case hy22 => (intro w' kk ss; (try dsimp only at ss); go_simp; first | done | with_reducible rfl)
          try simp only [Act.put, List.setIfInBounds_toArray, List.set_cons_zero, List.set_cons_succ]
          refine' Reg.wpG_take (i := 24) (oi := { dst := some 66, op := Op.move (Operand.tmp 12), type := 56, pos := "law.go:135", after := #[{ on := 23, ground := Ground.guard }], guard := some (23, true) }) (v := _) [33, 34, 35, 36, 37, 38, 39, 40, 41, 42, 43, 44, 45, 46, 47, 48, 49, 50, 51, 52, 53, 54, 55, 56, 57, 58, 59, 60, 61, 62, 63, 64, 65, 66, 67, 68, 69, 70, 71, 72, 73, 74, 75, 76, 77, 78, 79, 80, 81, 82, 83, 84, 85, 86, 87, 88, 89, 90, 91, 92] [] rfl rfl (by kernel_rfl) (by kernel_rfl) (by kernel_rfl) (by kernel_rfl) (by kernel_rfl) (by kernel_rfl) (by kernel_rfl) (fun _ _ _ h => h) (Or.inl ⟨by rfl, Or.inl ?hy23⟩) ?rest23
          case hy23 => (intro w' kk ss; (try dsimp only at ss); go_simp; first | done | with_reducible rfl)
          try simp only [Act.put, List.setIfInBounds_toArray, List.set_cons_zero, List.set_cons_succ]
          refine' Reg.wpG_take (i := 25) (oi := { dst := some 67, op := Op.move (Operand.tmp 11), type := 55, pos := "law.go:135", after := #[{ on := 23, ground := Ground.guard }], guard := some (23, true) }) (v := _) [28, 32, 33, 34, 35, 36, 37, 38, 39, 40, 41, 42, 43, 44, 45, 46, 47, 48, 49, 50, 51, 52, 53, 54, 55, 56, 57, 58, 59, 60, 61, 62, 63, 64, 65, 66, 67, 68, 69, 70, 71, 72, 73, 74, 75, 76, 77, 78, 79, 80, 81, 82, 83, 84, 85, 86, 87, 88, 89, 90, 91, 92] [] rfl rfl (by kernel_rfl) (by kernel_rfl) (by kernel_rfl) (by kernel_rfl) (by kernel_rfl) (by kernel_rfl) (by kernel_rfl) (fun _ _ _ h => h) (Or.inl ⟨by rfl, Or.inl ?hy24⟩) ?rest24
          case hy24 => (intro w' kk ss; (try dsimp only at ss); go_simp; first | done | with_reducible rfl)
          try simp only [Act.put, List.setIfInBounds_toArray, List.set_cons_zero, List.set_cons_succ]
          refine' Reg.wpG_take (i := 26) (oi := { dst := some 68, op := Op.load 30 (Operand.tmp 7), type := 30, pos := "law.go:135", after := #[{ on := 23, ground := Ground.guard }], guard := some (23, true) }) (v := _) [28, 32, 33, 34, 35, 36, 37, 38, 39, 40, 41, 42, 43, 44, 45, 46, 47, 48, 49, 50, 51, 52, 53, 54, 55, 56, 57, 58, 59, 60, 61, 62, 63, 64, 65, 66, 67, 68, 69, 70, 71, 72, 73, 74, 75, 76, 77, 78, 79, 80, 81, 82, 83, 84, 85, 86, 87, 88, 89, 90, 91, 92] [] rfl rfl (by kernel_rfl) (by kernel_rfl) (by kernel_rfl) (by kernel_rfl) (by kernel_rfl) (by kernel_rfl) (by kernel_rfl) (fun _ _ _ h => h) (Or.inl ⟨by rfl, Or.inl ?hy25⟩) ?rest25
          case hy25 => (intro w' kk ss; (try dsimp only at ss); go_simp; first | done | with_reducible rfl)
          try simp only [Act.put, List.setIfInBounds_toArray, List.set_cons_zero, List.set_cons_succ]
          refine' Reg.wpG_take (i := 27) (oi := { dst := some 69, op := Op.load 30 (Operand.tmp 8), type := 30, pos := "law.go:135", after := #[{ on := 23, ground := Ground.guard }], guard := some (23, true) }) (v := _) [28, 32, 33, 34, 35, 36, 37, 38, 39, 40, 41, 42, 43, 44, 45, 46, 47, 48, 49, 50, 51, 52, 53, 54, 55, 56, 57, 58, 59, 60, 61, 62, 63, 64, 65, 66, 67, 68, 69, 70, 71, 72, 73, 74, 75, 76, 77, 78, 79, 80, 81, 82, 83, 84, 85, 86, 87, 88, 89, 90, 91, 92] [] rfl rfl (by kernel_rfl) (by kernel_rfl) (by kernel_rfl) (by kernel_rfl) (by kernel_rfl) (by kernel_rfl) (by kernel_rfl) (fun _ _ _ h => h) (Or.inl ⟨by rfl, Or.inl ?hy26⟩) ?rest26
          case hy26 => (intro w' kk ss; (try dsimp only at ss); go_simp; first | done | with_reducible rfl)
          try simp only [Act.put, List.setIfInBounds_toArray, List.set_cons_zero, List.set_cons_succ]
          refine' Reg.wpG_take (i := 29) (oi := { dst := some 71, op := Op.move (Operand.tmp 11), type := 55, pos := "law.go:135", after := #[{ on := 23, ground := Ground.guard }], guard := some (23, true) }) (v := _) [32, 33, 34, 35, 36, 37, 38, 39, 40, 41, 42, 43, 44, 45, 46, 47, 48, 49, 50, 51, 52, 53, 54, 55, 56, 57, 58, 59, 60, 61, 62, 63, 64, 65, 66, 67, 68, 69, 70, 71, 72, 73, 74, 75, 76, 77, 78, 79, 80, 81, 82, 83, 84, 85, 86, 87, 88, 89, 90, 91, 92] [] rfl rfl (by kernel_rfl) (by kernel_rfl) (by kernel_rfl) (by kernel_rfl) (by kernel_rfl) (by kernel_rfl) (by kernel_rfl) (fun _ _ _ h => h) (Or.inl ⟨by rfl, Or.inl ?hy27⟩) ?rest27
          case hy27 => (intro w' kk ss; (try dsimp only at ss); go_simp; first | done | with_reducible rfl)
          try simp only [Act.put, List.setIfInBounds_toArray, List.set_cons_zero, List.set_cons_succ]
          refine' Reg.wpG_take (i := 30) (oi := { dst := some 72, op := Op.load 30 (Operand.tmp 8), type := 30, pos := "law.go:135", after := #[{ on := 23, ground := Ground.guard }], guard := some (23, true) }) (v := _) [32, 33, 34, 35, 36, 37, 38, 39, 40, 41, 42, 43, 44, 45, 46, 47, 48, 49, 50, 51, 52, 53, 54, 55, 56, 57, 58, 59, 60, 61, 62, 63, 64, 65, 66, 67, 68, 69, 70, 71, 72, 73, 74, 75, 76, 77, 78, 79, 80, 81, 82, 83, 84, 85, 86, 87, 88, 89, 90, 91, 92] [] rfl rfl (by kernel_rfl) (by kernel_rfl) (by kernel_rfl) (by kernel_rfl) (by kernel_rfl) (by kernel_rfl) (by kernel_rfl) (fun _ _ _ h => h) (Or.inl ⟨by rfl, Or.inl ?hy28⟩) ?rest28
          case hy28 => (intro w' kk ss; (try dsimp only at ss); go_simp; first | done | with_reducible rfl)
          try simp only [Act.put, List.setIfInBounds_toArray, List.set_cons_zero, List.set_cons_succ]
          refine' Reg.wpG_take (i := 31) (oi := { dst := some 73, op := Op.load 30 (Operand.tmp 7), type := 30, pos := "law.go:135", after := #[{ on := 23, ground := Ground.guard }], guard := some (23, true) }) (v := _) [32, 33, 34, 35, 36, 37, 38, 39, 40, 41, 42, 43, 44, 45, 46, 47, 48, 49, 50, 51, 52, 53, 54, 55, 56, 57, 58, 59, 60, 61, 62, 63, 64, 65, 66, 67, 68, 69, 70, 71, 72, 73, 74, 75, 76, 77, 78, 79, 80, 81, 82, 83, 84, 85, 86, 87, 88, 89, 90, 91, 92] [] rfl rfl (by kernel_rfl) (by kernel_rfl) (by kernel_rfl) (by kernel_rfl) (by kernel_rfl) (by kernel_rfl) (by kernel_rfl) (fun _ _ _ h => h) (Or.inl ⟨by rfl, Or.inl ?hy29⟩) ?rest29
          case hy29 => (intro w' kk ss; (try dsimp only at ss); go_simp; first | done | with_reducible rfl)
          try simp only [Act.put, List.setIfInBounds_toArray, List.set_cons_zero, List.set_cons_succ]
          refine Reg.wpG_ready (rs := [28]) (by kernel_rfl) (by simp) (fun wq4 k4' sq4 => ?_)
          have hr0 := hr0.trans k4'
          have r1 := r1.since k4'
          refine Reg.AllG.first (o := { dst := some 70, op := Op.call { callee := Callee.value (Operand.tmp 67), args := #[Operand.tmp 68, Operand.tmp 69], argTypes := #[30, 30] }, type := 30, pos := "law.go:135", after := #[{ on := 25, ground := Ground.data }, { on := 26, ground := Ground.data }, { on := 27, ground := Ground.data }, { on := 23, ground := Ground.chain }, { on := 23, ground := Ground.guard }], guard := some (23, true) }) rfl (by rfl) (fun K hK => ?_) Reg.AllG.nil
          obtain ⟨⟨o0, o1⟩, ⟨o2, o3⟩, ⟨o4, o5⟩, o6, o7⟩ := hall.out _ hr0
          go_simp
          (with_reducible refine (Law03.mulc_any a0 a1 cap0 cap1 b0 b1 d0 d1 wq4 (R0.out.since (hS0.trans (hS.trans hr0))) (R1.out.since (hS0.trans (hS.trans hr0))) M0.out M1.out E3a.out).mono ?_)
          rintro e y104 ⟨B4, p4, rfl, t4, hx⟩
          refine hK.out _ _ ?_ hx ?_
          · exact hall.out _ (hr0.trans hx)
          clear hK K o0 o1 o2 o3 o4 o5 o6 o7
          have hr0 := hr0.trans hx
          have r1 := r1.since hx
          clear hx
          try simp only [Act.put, List.setIfInBounds_toArray, List.set_cons_zero, List.set_cons_succ]
          as_aux_lemma =>
            refine Reg.wpG_ready (rs := [32]) (by kernel_rfl) (by simp) (fun wq5 k5' sq5 => ?_)
            have hr0 := hr0.trans k5'
            have r1 := r1.since k5'
            have t4 := t4.since k5'
            refine Reg.AllG.first (o := { dst := some 74, op := Op.call { callee := Callee.value (Operand.tmp 71), args := #[Operand.tmp 72, Operand.tmp 73], argTypes := #[30, 30] }, type := 30, pos := "law.go:135", after := #[{ on := 29, ground := Ground.data }, { on := 30, ground := Ground.data }, { on := 31, ground := Ground.data }, { on := 28, ground := Ground.chain }, { on := 23, ground := Ground.guard }], guard := some (23, true) }) rfl (by rfl) (fun K hK => ?_) Reg.AllG.nil
            obtain ⟨⟨o0, o1⟩, ⟨o2, o3⟩, ⟨o4, o5⟩, o6, o7⟩ := hall.out _ hr0
            go_simp
            (with_reducible refine (Law03.mulc_any a1 a0 cap1 cap0 b1 b0 d1 d0 wq5 (R1.out.since (hS0.trans (hS.trans hr0))) (R0.out.since (hS0.trans (hS.trans hr0))) M1.out M0.out E3b.out).mono ?_)
            rintro e y105 ⟨B5, p5, rfl, t5, hx⟩
            refine hK.out _ _ ?_ hx ?_
            · exact hall.out _ (hr0.trans hx)
            clear hK K o0 o1 o2 o3 o4 o5 o6 o7
            have hr0 := hr0.trans hx
            have r1 := r1.since hx
            have t4 := t4.since hx
            clear hx
            try simp only [Act.put, List.setIfInBounds_toArray, List.set_cons_zero, List.set_cons_succ]
            as_aux_lemma =>
              refine Reg.wpG_take (i := 33) (oi := { dst := some 75, op := Op.call { callee := Callee.value (Operand.tmp 66), args := #[Operand.tmp 70, Operand.tmp 74], argTypes := #[30, 30] }, type := 4, pos := "law.go:135", after := #[{ on := 24, ground := Ground.data }, { on := 28, ground := Ground.data }, { on := 32, ground := Ground.data }, { on := 32, ground := Ground.chain }, { on := 23, ground := Ground.guard }], guard := some (23, true) }) (v := .bool true) [34, 35, 36, 37, 38, 39, 40, 41, 42, 43, 44, 45, 46, 47, 48, 49, 50, 51, 52, 53, 54, 55, 56, 57, 58, 59, 60, 61, 62, 63, 64, 65, 66, 67, 68, 69, 70, 71, 72, 73, 74, 75, 76, 77, 78, 79, 80, 81, 82, 83, 84, 85, 86, 87, 88, 89, 90, 91, 92] [] rfl rfl (by kernel_rfl) (by kernel_rfl) (by kernel_rfl) (by kernel_rfl) (by kernel_rfl) (by kernel_rfl) (by kernel_rfl) (fun _ _ _ h => h) (Or.inl ⟨by rfl, Or.inr ⟨35, #[sv (n 3) (.slice B4 (s 3).length p4), sv (n 3) (.slice B5 (s 3).length p5)], fun w' kk ss => ⟨?_, ?_⟩⟩⟩) ?_
              · (try dsimp only at ss); go_simp
              · exact (Law03.samec_any B4 B5 p4 p5 (n 3) (s 3) w' (t4.since kk) (t5.since kk) (LEN.out 3) (RGT.out 3)).mono fun e w'' h => ⟨h.1, h.2, hall.out _ (hr0.trans (kk.trans h.2))⟩
              try simp only [Act.put, List.setIfInBounds_toArray, List.set_cons_zero, List.set_cons_succ]
              refine' Reg.wpG_take (i := 34) (oi := { dst := some 76, op := Op.pick (Operand.tmp 65) (Operand.tmp 75) (Operand.const (Value.bool false)), type := 4, pos := "law.go:135", after := #[{ on := 23, ground := Ground.data }, { on := 33, ground := Ground.data }], guard := none }) (v := _) [35, 36, 37, 38, 39, 40, 41, 42, 43, 44, 45, 46, 47, 48, 49, 50, 51, 52, 53, 54, 55, 56, 57, 58, 59, 60, 61, 62, 63, 64, 65, 66, 67, 68, 69, 70, 71, 72, 73, 74, 75, 76, 77, 78, 79, 80, 81, 82, 83, 84, 85, 86, 87, 88, 89, 90, 91, 92] [] rfl rfl (by kernel_rfl) (by kernel_rfl) (by kernel_rfl) (by kernel_rfl) (by kernel_rfl) (by kernel_rfl) (by kernel_rfl) (fun _ _ _ h => h) (Or.inl ⟨by rfl, Or.inl ?hy30⟩) ?rest30
              case hy30 => (intro w' kk ss; (try dsimp only at ss); go_simp; first | done | with_reducible rfl)
              try simp only [Act.put, List.setIfInBounds_toArray, List.set_cons_zero, List.set_cons_succ]
              refine' Reg.wpG_take (i := 35) (oi := { dst := some 77, op := Op.move (Operand.tmp 76), type := 4, pos := "law.go:135", after := #[{ on := 34, ground := Ground.data }, { on := 33, ground := Ground.chain }], guard := none }) (v := _) [36, 37, 38, 39, 40, 41, 42, 43, 44, 45, 46, 47, 48, 49, 50, 51, 52, 53, 54, 55, 56, 57, 58, 59, 60, 61, 62, 63, 64, 65, 66, 67, 68, 69, 70, 71, 72, 73, 74, 75, 76, 77, 78, 79, 80, 81, 82, 83, 84, 85, 86, 87, 88, 89, 90, 91, 92] [] rfl rfl (by kernel_rfl) (by kernel_rfl) (by kernel_rfl) (by kernel_rfl) (by kernel_rfl) (by kernel_rfl) (by kernel_rfl) (fun _ _ _ h => h) (Or.inl ⟨by rfl, Or.inl ?hy31⟩) ?rest31
              case hy31 => (intro w' kk ss; (try dsimp only at ss); go_simp; first | done | with_reducible rfl)
              try simp only [Act.put, List.setIfInBounds_toArray, List.set_cons_zero, List.set_cons_succ]
              refine' Reg.wpG_take (i := 36) (oi := { dst := some 78, op := Op.move (Operand.tmp 12), type := 56, pos := "law.go:135", after := #[{ on := 35, ground := Ground.guard }], guard := some (35, true) }) (v := _) [51, 52, 53, 54, 55, 56, 57, 58, 59, 60, 61, 62, 63, 64, 65, 66, 67, 68, 69, 70, 71, 72, 73, 74, 75, 76, 77, 78, 79, 80, 81, 82, 83, 84, 85, 86, 87, 88, 89, 90, 91, 92] [] rfl rfl (by kernel_rfl) (by kernel_rfl) (by kernel_rfl) (by kernel_rfl) (by kernel_rfl) (by kernel_rfl) (by kernel_rfl) (fun _ _ _ h => h) (Or.inl ⟨by rfl, Or.inl ?hy32⟩) ?rest32
              case hy32 => (intro w' kk ss; (try dsimp only at ss); go_simp; first | done | with_reducible rfl)
              try simp only [Act.put, List.setIfInBounds_toArray, List.set_cons_zero, List.set_cons_succ]
              refine' Reg.wpG_take (i := 37) (oi := { dst := some 79, op := Op.move (Operand.tmp 10), type := 55, pos := "law.go:135", after := #[{ on := 35, ground := Ground.guard }], guard := some (35, true) }) (v := _) [43, 49, 50, 51, 52, 53, 54, 55, 56, 57, 58, 59, 60, 61, 62, 63, 64, 65, 66, 67, 68, 69, 70, 71, 72, 73, 74, 75, 76, 77, 78, 79, 80, 81, 82, 83, 84, 85, 86, 87, 88, 89, 90, 91, 92] [] rfl rfl (by kernel_rfl) (by kernel_rfl) (by kernel_rfl) (by kernel_rfl) (by kernel_rfl) (by kernel_rfl) (by kernel_rfl) (fun _ _ _ h => h) (Or.inl ⟨by rfl, Or.inl ?hy33⟩) ?rest33
              case hy33 => (intro w' kk ss; (try dsimp only at ss); go_simp; first | done | with_reducible rfl)
              try simp only [Act.put, List.setIfInBounds_toArray, List.set_cons_zero, List.set_cons_succ]
              refine' Reg.wpG_take (i := 38) (oi := { dst := some 80, op := Op.move (Operand.tmp 10), type := 55, pos := "law.go:135", after := #[{ on := 35, ground := Ground.guard }], guard := some (35, true) }) (v := _) [41, 43, 49, 50, 51, 52, 53, 54, 55, 56, 57, 58, 59, 60, 61, 62, 63, 64, 65, 66, 67, 68, 69, 70, 71, 72, 73, 74, 75, 76, 77, 78, 79, 80, 81, 82, 83, 84, 85, 86, 87, 88, 89, 90, 91, 92] [] rfl rfl (by kernel_rfl) (by kernel_rfl) (by kernel_rfl) (by kernel_rfl) (by kernel_rfl) (by kernel_rfl) (by kernel_rfl) (fun _ _ _ h => h) (Or.inl ⟨by rfl, Or.inl ?hy34⟩) ?rest34
              case hy34 => (intro w' kk ss; (try dsimp only at ss); go_simp; first | done | with_reducible rfl)
              try simp only [Act.put, List.setIfInBounds_toArray, List.set_cons_zero, List.set_cons_succ]
              refine' Reg.wpG_take (i := 39) (oi := { dst := some 81, op := Op.load 30 (Operand.tmp 7), type := 30, pos := "law.go:135", after := #[{ on := 35, ground := Ground.guard }], guard := some (35, true) }) (v := _) [41, 43, 49, 50, 51, 52, 53, 54, 55, 56, 57, 58, 59, 60, 61, 62, 63, 64, 65, 66, 67, 68, 69, 70, 71, 72, 73, 74, 75, 76, 77, 78, 79, 80, 81, 82, 83, 84, 85, 86, 87, 88, 89, 90, 91, 92] [] rfl rfl (by kernel_rfl) (by kernel_rfl) (by kernel_rfl) (by kernel_rfl) (by kernel_rfl) (by kernel_rfl) (by kernel_rfl) (fun _ _ _ h => h) (Or.inl ⟨by rfl, Or.inl ?hy35⟩) ?rest35
              case hy35 => (intro w' kk ss; (try dsimp only at ss); go_simp; first | done | with_reducible rfl)
              try simp only [Act.put, List.setIfInBounds_toArray, List.set_cons_zero, List.set_cons_succ]
              refine' Reg.wpG_take (i := 40) (oi := { dst := some 82, op := Op.load 30 (Operand.tmp 8), type := 30, pos := "law.go:135", after := #[{ on := 35, ground := Ground.guard }], guard := some (35, true) }) (v := _) [41, 43, 49, 50, 51, 52, 53, 54, 55, 56, 57, 58, 59, 60, 61, 62, 63, 64, 65, 66, 67, 68, 69, 70, 71, 72, 73, 74, 75, 76, 77, 78, 79, 80, 81, 82, 83, 84, 85, 86, 87, 88, 89, 90, 91, 92] [] rfl rfl (by kernel_rfl) (by kernel_rfl) (by kernel_rfl) (by kernel_rfl) (by kernel_rfl) (by kernel_rfl) (by kernel_rfl) (fun _ _ _ h => h) (Or.inl ⟨by rfl, Or.inl ?hy36⟩) ?rest36
              case hy36 => (intro w' kk ss; (try dsimp only at ss); go_simp; first | done | with_reducible rfl)
              try simp only [Act.put, List.setIfInBounds_toArray, List.set_cons_zero, List.set_cons_succ]
              refine' Reg.wpG_take (i := 42) (oi := { dst := some 84, op := Op.load 30 (Operand.tmp 9), type := 30, pos := "law.go:135", after := #[{ on := 35, ground := Ground.guard }], guard := some (35, true) }) (v := _) [43, 49, 50, 51, 52, 53, 54, 55, 56, 57, 58, 59, 60, 61, 62, 63, 64, 65, 66, 67, 68, 69, 70, 71, 72, 73, 74, 75, 76, 77, 78, 79, 80, 81, 82, 83, 84, 85, 86, 87, 88, 89, 90, 91, 92] [] rfl rfl (by kernel_rfl) (by kernel_rfl) (by kernel_rfl) (by kernel_rfl) (by kernel_rfl) (by kernel_rfl) (by kernel_rfl) (fun _ _ _ h => h) (Or.inl ⟨by rfl, Or.inl ?hy37⟩) ?rest37
              case hy37 => (intro w' kk ss; (try dsimp only at ss); go_simp; first | done | with_reducible rfl)
              try simp only [Act.put, List.setIfInBounds_toArray, List.set_cons_zero, List.set_cons_succ]
              refine' Reg.wpG_take (i := 44) (oi := { dst := some 86, op := Op.move (Operand.tmp 10), type := 55, pos := "law.go:135", after := #[{ on := 35, ground := Ground.guard }], guard := some (35, true) }) (v := _) [50, 51, 52, 53, 54, 55, 56, 57, 58, 59, 60, 61, 62, 63, 64, 65, 66, 67, 68, 69, 70, 71, 72, 73, 74, 75, 76, 77, 78, 79, 80, 81, 82, 83, 84, 85, 86, 87, 88, 89, 90, 91, 92] [] rfl rfl (by kernel_rfl) (by kernel_rfl) (by kernel_rfl) (by kernel_rfl) (by kernel_rfl) (by kernel_rfl) (by kernel_rfl) (fun _ _ _ h => h) (Or.inl ⟨by rfl, Or.inl ?hy38⟩) ?rest38
              case hy38 => (intro w' kk ss; (try dsimp only at ss); go_simp; first | done | with_reducible rfl)
              try simp only [Act.put, List.setIfInBounds_toArray, List.set_cons_zero, List.set_cons_succ]
              refine' Reg.wpG_take (i := 45) (oi := { dst := some 87, op := Op.load 30 (Operand.tmp 7), type := 30, pos := "law.go:135", after := #[{ on := 35, ground := Ground.guard }], guard := some (35, true) }) (v := _) [50, 51, 52, 53, 54, 55, 56, 57, 58, 59, 60, 61, 62, 63, 64, 65, 66, 67, 68, 69, 70, 71, 72, 73, 74, 75, 76, 77, 78, 79, 80, 81, 82, 83, 84, 85, 86, 87, 88, 89, 90, 91, 92] [] rfl rfl (by kernel_rfl) (by kernel_rfl) (by kernel_rfl) (by kernel_rfl) (by kernel_rfl) (by kernel_rfl) (by kernel_rfl) (fun _ _ _ h => h) (Or.inl ⟨by rfl, Or.inl ?hy39⟩) ?rest39
              case hy39 => (intro w' kk ss; (try dsimp only at ss); go_simp; first | done | with_reducible rfl)
              try simp only [Act.put, List.setIfInBounds_toArray, List.set_cons_zero, List.set_cons_succ]
              refine' Reg.wpG_take (i := 46) (oi := { dst := some 88, op := Op.move (Operand.tmp 10), type := 55, pos := "law.go:135", after := #[{ on := 35, ground := Ground.guard }], guard := some (35, true) }) (v := _) [49, 50, 51, 52, 53, 54, 55, 56, 57, 58, 59, 60, 61, 62, 63, 64, 65, 66, 67, 68, 69, 70, 71, 72, 73, 74, 75, 76, 77, 78, 79, 80, 81, 82, 83, 84, 85, 86, 87, 88, 89, 90, 91, 92] [] rfl rfl (by kernel_rfl) (by kernel_rfl) (by kernel_rfl) (by kernel_rfl) (by kernel_rfl) (by kernel_rfl) (by kernel_rfl) (fun _ _ _ h => h) (Or.inl ⟨by rfl, Or.inl ?hy40⟩) ?rest40
              case hy40 => (intro w' kk ss; (try dsimp only at ss); go_simp; first | done | with_reducible rfl)
              try simp only [Act.put, List.setIfInBounds_toArray, List.set_cons_zero, List.set_cons_succ]
              refine' Reg.wpG_take (i := 47) (oi := { dst := some 89, op := Op.load 30 (Operand.tmp 8), type := 30, pos := "law.go:135", after := #[{ on := 35, ground := Ground.guard }], guard := some (35, true) }) (v := _) [49, 50, 51, 52, 53, 54, 55, 56, 57, 58, 59, 60, 61, 62, 63, 64, 65, 66, 67, 68, 69, 70, 71, 72, 73, 74, 75, 76, 77, 78, 79, 80, 81, 82, 83, 84, 85, 86, 87, 88, 89, 90, 91, 92] [] rfl rfl (by kernel_rfl) (by kernel_rfl) (by kernel_rfl) (by kernel_rfl) (by kernel_rfl) (by kernel_rfl) (by kernel_rfl) (fun _ _ _ h => h) (Or.inl ⟨by rfl, Or.inl ?hy41⟩) ?rest41
              case hy41 => (intro w' kk ss; (try dsimp only at ss); go_simp; first | done | with_reducible rfl)
              try simp only [Act.put, List.setIfInBounds_toArray, List.set_cons_zero, List.set_cons_succ]
              refine' Reg.wpG_take (i := 48) (oi := { dst := some 90, op := Op.load 30 (Operand.tmp 9), type := 30, pos := "law.go:135", after := #[{ on := 35, ground := Ground.guard }], guard := some (35, true) }) (v := _) [49, 50, 51, 52, 53, 54, 55, 56, 57, 58, 59, 60, 61, 62, 63, 64, 65, 66, 67, 68, 69, 70, 71, 72, 73, 74, 75, 76, 77, 78, 79, 80, 81, 82, 83, 84, 85, 86, 87, 88, 89, 90, 91, 92] [] rfl rfl (by kernel_rfl) (by kernel_rfl) (by kernel_rfl) (by kernel_rfl) (by kernel_rfl) (by kernel_rfl) (by kernel_rfl) (fun _ _ _ h => h) (Or.inl ⟨by rfl, Or.inl ?hy42⟩) ?rest42
              case hy42 => (intro w' kk ss; (try dsimp only at ss); go_simp; first | done | with_reducible rfl)
              try simp only [Act.put, List.setIfInBounds_toArray, List.set_cons_zero, List.set_cons_succ]
              refine Reg.wpG_ready (rs := [41]) (by kernel_rfl) (by simp) (fun wq6 k6' sq6 => ?_)
              have hr0 := hr0.trans k6'
              have r1 := r1.since k6'
              refine Reg.AllG.first (o := { dst := some 83, op := Op.call { callee := Callee.value (Operand.tmp 80), args := #[Operand.tmp 81, Operand.tmp 82], argTypes := #[30, 30] }, type := 30, pos := "law.go:135", after := #[{ on := 38, ground := Ground.data }, { on := 39, ground := Ground.data }, { on := 40, ground := Ground.data }, { on := 35, ground := Ground.chain }, { on := 35, ground := Ground.guard }], guard := some (35, true) }) rfl (by rfl) (fun K hK => ?_) Reg.AllG.nil
              obtain ⟨⟨o0, o1⟩, ⟨o2, o3⟩, ⟨o4, o5⟩, o6, o7⟩ := hall.out _ hr0
              go_simp
              (with_reducible refine (Law03.addc_any a0 a1 cap0 cap1 b0 b1 d0 d1 wq6 (R0.out.since (hS0.trans (hS.trans hr0))) (R1.out.since (hS0.trans (hS.trans hr0))) M0.out M1.out E2a.out).mono ?_)
              rintro e y106 ⟨B6, p6, rfl, t6, hx⟩
              refine hK.out _ _ ?_ hx ?_
              · exact hall.out _ (hr0.trans hx)
              clear hK K o0 o1 o2 o3 o4 o5 o6 o7
              have hr0 := hr0.trans hx
              have r1 := r1.since hx
              clear hx
              try simp only [Act.put, List.setIfInBounds_toArray, List.set_cons_zero, List.set_cons_succ]
              as_aux_lemma =>
                refine Reg.wpG_ready (rs := [43]) (by kernel_rfl) (by simp) (fun wq7 k7' sq7 => ?_)
                have hr0 := hr0.trans k7'
                have r1 := r1.since k7'
                have t6 := t6.since k7'
                refine Reg.AllG.first (o := { dst := some 85, op := Op.call { callee := Callee.value (Operand.tmp 79), args := #[Operand.tmp 83, Operand.tmp 84], argTypes := #[30, 30] }, type := 30, pos := "law.go:135", after := #[{ on := 37, ground := Ground.data }, { on := 41, ground := Ground.data }, { on := 42, ground := Ground.data }, { on := 41, ground := Ground.chain }, { on := 35, ground := Ground.guard }], guard := some (35, true) }) rfl (by rfl) (fun K hK => ?_) Reg.AllG.nil
                obtain ⟨⟨o0, o1⟩, ⟨o2, o3⟩, ⟨o4, o5⟩, o6, o7⟩ := hall.out _ hr0
                go_simp
                (with_reducible refine (Law03.addc_any B6 a2 p6 cap2 (n 2) b2 (s 2) d2 wq7 (t6) (R2.out.since (hS0.trans (hS.trans hr0))) (LEN.out 2) M2.out E4a.out).mono ?_)
                rintro e y107 ⟨B7, p7, rfl, t7, hx⟩
                refine hK.out _ _ ?_ hx ?_
                · exact hall.out _ (hr0.trans hx)
                clear hK K o0 o1 o2 o3 o4 o5 o6 o7
                have hr0 := hr0.trans hx
                have r1 := r1.since hx
                have t6 := t6.since hx
                clear hx
                try simp only [Act.put, List.setIfInBounds_toArray, List.set_cons_zero, List.set_cons_succ]
                as_aux_lemma =>
                  refine Reg.wpG_ready (rs := [49]) (by kernel_rfl) (by simp) (fun wq8 k8' sq8 => ?_)
                  have hr0 := hr0.trans k8'
                  have r1 := r1.since k8'
                  have t6 := t6.since k8'
                  have t7 := t7.since k8'
                  refine Reg.AllG.first (o := { dst := some 91, op := Op.call { callee := Callee.value (Operand.tmp 88), args := #[Operand.tmp 89, Operand.tmp 90], argTypes := #[30, 30] }, type := 30, pos := "law.go:135", after := #[{ on := 46, ground := Ground.data }, { on := 47, ground := Ground.data }, { on := 48, ground := Ground.data }, { on := 43, ground := Ground.chain }, { on := 35, ground := Ground.guard }], guard := some (35, true) }) rfl (by rfl) (fun K hK => ?_) Reg.AllG.nil
                  obtain ⟨⟨o0, o1⟩, ⟨o2, o3⟩, ⟨o4, o5⟩, o6, o7⟩ := hall.out _ hr0
                  go_simp
                  (with_reducible refine (Law03.addc_any a1 a2 cap1 cap2 b1 b2 d1 d2 wq8 (R1.out.since (hS0.trans (hS.trans hr0))) (R2.out.since (hS0.trans (hS.trans hr0))) M1.out M2.out E5.out).mono ?_)
                  rintro e y108 ⟨B8, p8, rfl, t8, hx⟩
                  refine hK.out _ _ ?_ hx ?_
                  · exact hall.out _ (hr0.trans hx)
                  clear hK K o0 o1 o2 o3 o4 o5 o6 o7
                  have hr0 := hr0.trans hx
                  have r1 := r1.since hx
                  have t6 := t6.since hx
                  have t7 := t7.since hx
                  clear hx
                  try simp only [Act.put, List.setIfInBounds_toArray, List.set_cons_zero, List.set_cons_succ]
                  as_aux_lemma =>
                    refine Reg.wpG_ready (rs := [50]) (by kernel_rfl) (by simp) (fun wq9 k9' sq9 => ?_)
                    have hr0 := hr0.trans k9'
                    have r1 := r1.since k9'
                    have t6 := t6.since k9'
                    have t7 := t7.since k9'
                    have t8 := t8.since k9'
                    refine Reg.AllG.first (o := { dst := some 92, op := Op.call { callee := Callee.value (Operand.tmp 86), args := #[Operand.tmp 87, Operand.tmp 91], argTypes := #[30, 30] }, type := 30, pos := "law.go:135", after := #[{ on := 44, ground := Ground.data }, { on := 45, ground := Ground.data }, { on := 49, ground := Ground.data }, { on := 49, ground := Ground.chain }, { on := 35, ground := Ground.guard }], guard := some (35, true) }) rfl (by rfl) (fun K hK => ?_) Reg.AllG.nil
                    obtain ⟨⟨o0, o1⟩, ⟨o2, o3⟩, ⟨o4, o5⟩, o6, o7⟩ := hall.out _ hr0
                    go_simp
                    (with_reducible refine (Law03.addc_any a0 B8 cap0 p8 b0 (n 5) d0 (s 5) wq9 (R0.out.since (hS0.trans (hS.trans hr0))) (t8) M0.out (LEN.out 5) E4b.out).mono ?_)
                    rintro e y109 ⟨B9, p9, rfl, t9, hx⟩
                    refine hK.out _ _ ?_ hx ?_
                    · exact hall.out _ (hr0.trans hx)
                    clear hK K o0 o1 o2 o3 o4 o5 o6 o7
                    have hr0 := hr0.trans hx
                    have r1 := r1.since hx
                    have t6 := t6.since hx
                    have t7 := t7.since hx
                    have t8 := t8.since hx
                    clear hx
                    try simp only [Act.put, List.setIfInBounds_toArray, List.set_cons_zero, List.set_cons_succ]
                    as_aux_lemma =>
                      refine Reg.wpG_take (i := 51) (oi := { dst := some 93, op := Op.call { callee := Callee.value (Operand.tmp 78), args := #[Operand.tmp 85, Operand.tmp 92], argTypes := #[30, 30] }, type := 4, pos := "law.go:135", after := #[{ on := 36, ground := Ground.data }, { on := 43, ground := Ground.data }, { on := 50, ground := Ground.data }, { on := 50, ground := Ground.chain }, { on := 35, ground := Ground.guard }], guard := some (35, true) }) (v := .bool true) [52, 53, 54, 55, 56, 57, 58, 59, 60, 61, 62, 63, 64, 65, 66, 67, 68, 69, 70, 71, 72, 73, 74, 75, 76, 77, 78, 79, 80, 81, 82, 83, 84, 85, 86, 87, 88, 89, 90, 91, 92] [] rfl rfl (by kernel_rfl) (by kernel_rfl) (by kernel_rfl) (by kernel_rfl) (by kernel_rfl) (by kernel_rfl) (by kernel_rfl) (fun _ _ _ h => h) (Or.inl ⟨by rfl, Or.inr ⟨35, #[sv (n 4) (.slice B7 (s 4).length p7), sv (n 4) (.slice B9 (s 4).length p9)], fun w' kk ss => ⟨?_, ?_⟩⟩⟩) ?_
                      · (try dsimp only at ss); go_simp
                      · exact (Law03.samec_any B7 B9 p7 p9 (n 4) (s 4) w' (t7.since kk) (t9.since kk) (LEN.out 4) (RGT.out 4)).mono fun e w'' h => ⟨h.1, h.2, hall.out _ (hr0.trans (kk.trans h.2))⟩
                      try simp only [Act.put, List.setIfInBounds_toArray, List.set_cons_zero, List.set_cons_succ]
                      refine' Reg.wpG_take (i := 52) (oi := { dst := some 94, op := Op.pick (Operand.tmp 77) (Operand.tmp 93) (Operand.const (Value.bool false)), type := 4, pos := "law.go:135", after := #[{ on := 35, ground := Ground.data }, { on := 51, ground := Ground.data }], guard := none }) (v := _) [53, 54, 55, 56, 57, 58, 59, 60, 61, 62, 63, 64, 65, 66, 67, 68, 69, 70, 71, 72, 73, 74, 75, 76, 77, 78, 79, 80, 81, 82, 83, 84, 85, 86, 87, 88, 89, 90, 91, 92] [] rfl rfl (by kernel_rfl) (by kernel_rfl) (by kernel_rfl) (by kernel_rfl) (by kernel_rfl) (by kernel_rfl) (by kernel_rfl) (fun _ _ _ h => h) (Or.inl ⟨by rfl, Or.inl ?hy43⟩) ?rest43
                      case hy43 => (intro w' kk ss; (try dsimp only at ss); go_simp; first | done | with_reducible rfl)
                      try simp only [Act.put, List.setIfInBounds_toArray, List.set_cons_zero, List.set_cons_succ]
                      refine' Reg.wpG_take (i := 53) (oi := { dst := some 95, op := Op.move (Operand.tmp 94), type := 4, pos := "law.go:135", after := #[{ on := 52, ground := Ground.data }, { on := 51, ground := Ground.chain }], guard := none }) (v := _) [54, 55, 56, 57, 58, 59, 60, 61, 62, 63, 64, 65, 66, 67, 68, 69, 70, 71, 72, 73, 74, 75, 76, 77, 78, 79, 80, 81, 82, 83, 84, 85, 86, 87, 88, 89, 90, 91, 92] [] rfl rfl (by kernel_rfl) (by kernel_rfl) (by kernel_rfl) (by kernel_rfl) (by kernel_rfl) (by kernel_rfl) (by kernel_rfl) (fun _ _ _ h => h) (Or.inl ⟨by rfl, Or.inl ?hy44⟩) ?rest44
                      case hy44 => (intro w' kk ss; (try dsimp only at ss); go_simp; first | done | with_reducible rfl)
                      try simp only [Act.put, List.setIfInBounds_toArray, List.set_cons_zero, List.set_cons_succ]
                      refine' Reg.wpG_take (i := 54) (oi := { dst := some 96, op := Op.move (Operand.tmp 12), type := 56, pos := "law.go:135", after := #[{ on := 53, ground := Ground.guard }], guard := some (53, true) }) (v := _) [69, 70, 71, 72, 73, 74, 75, 76, 77, 78, 79, 80, 81, 82, 83, 84, 85, 86, 87, 88, 89, 90, 91, 92] [] rfl rfl (by kernel_rfl) (by kernel_rfl) (by kernel_rfl) (by kernel_rfl) (by kernel_rfl) (by kernel_rfl) (by kernel_rfl) (fun _ _ _ h => h) (Or.inl ⟨by rfl, Or.inl ?hy45⟩) ?rest45
                      case hy45 => (intro w' kk ss; (try dsimp only at ss); go_simp; first | done | with_reducible rfl)
                      try simp only [Act.put, List.setIfInBounds_toArray, List.set_cons_zero, List.set_cons_succ]
                      refine' Reg.wpG_take (i := 55) (oi := { dst := some 97, op := Op.move (Operand.tmp 11), type := 55, pos := "law.go:135", after := #[{ on := 53, ground := Ground.guard }], guard := some (53, true) }) (v := _) [61, 67, 68, 69, 70, 71, 72, 73, 74, 75, 76, 77, 78, 79, 80, 81, 82, 83, 84, 85, 86, 87, 88, 89, 90, 91, 92] [] rfl rfl (by kernel_rfl) (by kernel_rfl) (by kernel_rfl) (by kernel_rfl) (by kernel_rfl) (by kernel_rfl) (by kernel_rfl) (fun _ _ _ h => h) (Or.inl ⟨by rfl, Or.inl ?hy46⟩) ?rest46
                      case hy46 => (intro w' kk ss; (try dsimp only at ss); go_simp; first | done | with_reducible rfl)
                      try simp only [Act.put, List.setIfInBounds_toArray, List.set_cons_zero, List.set_cons_succ]
                      refine' Reg.wpG_take (i := 56) (oi := { dst := some 98, op := Op.move (Operand.tmp 11), type := 55, pos := "law.go:135", after := #[{ on := 53, ground := Ground.guard }], guard := some (53, true) }) (v := _) [59, 61, 67, 68, 69, 70, 71, 72, 73, 74, 75, 76, 77, 78, 79, 80, 81, 82, 83, 84, 85, 86, 87, 88, 89, 90, 91, 92] [] rfl rfl (by kernel_rfl) (by kernel_rfl) (by kernel_rfl) (by kernel_rfl) (by kernel_rfl) (by kernel_rfl) (by kernel_rfl) (fun _ _ _ h => h) (Or.inl ⟨by rfl, Or.inl ?hy47⟩) ?rest47
                      case hy47 => (intro w' kk ss; (try dsimp only at ss); go_simp; first | done | with_reducible rfl)
                      try simp only [Act.put, List.setIfInBounds_toArray, List.set_cons_zero, List.set_cons_succ]
                      refine' Reg.wpG_take (i := 57) (oi := { dst := some 99, op := Op.load 30 (Operand.tmp 7), type := 30, pos := "law.go:135", after := #[{ on := 53, ground := Ground.guard }], guard := some (53, true) }) (v := _) [59, 61, 67, 68, 69, 70, 71, 72, 73, 74, 75, 76, 77, 78, 79, 80, 81, 82, 83, 84, 85, 86, 87, 88, 89, 90, 91, 92] [] rfl rfl (by kernel_rfl) (by kernel_rfl) (by kernel_rfl) (by kernel_rfl) (by kernel_rfl) (by kernel_rfl) (by kernel_rfl) (fun _ _ _ h => h) (Or.inl ⟨by rfl, Or.inl ?hy48⟩) ?rest48
                      case hy48 => (intro w' kk ss; (try dsimp only at ss); go_simp; first | done | with_reducible rfl)
                      try simp only [Act.put, List.setIfInBounds_toArray, List.set_cons_zero, List.set_cons_succ]
                      refine' Reg.wpG_take (i := 58) (oi := { dst := some 100, op := Op.load 30 (Operand.tmp 8), type := 30, pos := "law.go:135", after := #[{ on := 53, ground := Ground.guard }], guard := some (53, true) }) (v := _) [59, 61, 67, 68, 69, 70, 71, 72, 73, 74, 75, 76, 77, 78, 79, 80, 81, 82, 83, 84, 85, 86, 87, 88, 89, 90, 91, 92] [] rfl rfl (by kernel_rfl) (by kernel_rfl) (by kernel_rfl) (by kernel_rfl) (by kernel_rfl) (by kernel_rfl) (by kernel_rfl) (fun _ _ _ h => h) (Or.inl ⟨by rfl, Or.inl ?hy49⟩) ?rest49
                      case hy49 => (intro w' kk ss; (try dsimp only at ss); go_simp; first | done | with_reducible rfl)
                      try simp only [Act.put, List.setIfInBounds_toArray, List.set_cons_zero, List.set_cons_succ]
                      refine' Reg.wpG_take (i := 60) (oi := { dst := some 102, op := Op.load 30 (Operand.tmp 9), type := 30, pos := "law.go:135", after := #[{ on := 53, ground := Ground.guard }], guard := some (53, true) }) (v := _) [61, 67, 68, 69, 70, 71, 72, 73, 74, 75, 76, 77, 78, 79, 80, 81, 82, 83, 84, 85, 86, 87, 88, 89, 90, 91, 92] [] rfl rfl (by kernel_rfl) (by kernel_rfl) (by kernel_rfl) (by kernel_rfl) (by kernel_rfl) (by kernel_rfl) (by kernel_rfl) (fun _ _ _ h => h) (Or.inl ⟨by rfl, Or.inl ?hy50⟩) ?rest50
                      case hy50 => (intro w' kk ss; (try dsimp only at ss); go_simp; first | done | with_reducible rfl)
                      try simp only [Act.put, List.setIfInBounds_toArray, List.set_cons_zero, List.set_cons_succ]
                      refine' Reg.wpG_take (i := 62) (oi := { dst := some 104, op := Op.move (Operand.tmp 11), type := 55, pos := "law.go:135", after := #[{ on := 53, ground := Ground.guard }], guard := some (53, true) }) (v := _) [68, 69, 70, 71, 72, 73, 74, 75, 76, 77, 78, 79, 80, 81, 82, 83, 84, 85, 86, 87, 88, 89, 90, 91, 92] [] rfl rfl (by kernel_rfl) (by kernel_rfl) (by kernel_rfl) (by kernel_rfl) (by kernel_rfl) (by kernel_rfl) (by kernel_rfl) (fun _ _ _ h => h) (Or.inl ⟨by rfl, Or.inl ?hy51⟩) ?rest51
                      case hy51 => (intro w' kk ss; (try dsimp only at ss); go_simp; first | done | with_reducible rfl)
                      try simp only [Act.put, List.setIfInBounds_toArray, List.set_cons_zero, List.set_cons_succ]
                      refine' Reg.wpG_take (i := 63) (oi := { dst := some 105, op := Op.load 30 (Operand.tmp 7), type := 30, pos := "law.go:135", after := #[{ on := 53, ground := Ground.guard }], guard := some (53, true) }) (v := _) [68, 69, 70, 71, 72, 73, 74, 75, 76, 77, 78, 79, 80, 81, 82, 83, 84, 85, 86, 87, 88, 89, 90, 91, 92] [] rfl rfl (by kernel_rfl) (by kernel_rfl) (by kernel_rfl) (by kernel_rfl) (by kernel_rfl) (by kernel_rfl) (by kernel_rfl) (fun _ _ _ h => h) (Or.inl ⟨by rfl, Or.inl ?hy52⟩) ?rest52
                      case hy52 => (intro w' kk ss; (try dsimp only at ss); go_simp; first | done | with_reducible rfl)
                      try simp only [Act.put, List.setIfInBounds_toArray, List.set_cons_zero, List.set_cons_succ]
                      refine' Reg.wpG_take (i := 64) (oi := { dst := some 106, op := Op.move (Operand.tmp 11), type := 55, pos := "law.go:135", after := #[{ on := 53, ground := Ground.guard }], guard := some (53, true) }) (v := _) [67, 68, 69, 70, 71, 72, 73, 74, 75, 76, 77, 78, 79, 80, 81, 82, 83, 84, 85, 86, 87, 88, 89, 90, 91, 92] [] rfl rfl (by kernel_rfl) (by kernel_rfl) (by kernel_rfl) (by kernel_rfl) (by kernel_rfl) (by kernel_rfl) (by kernel_rfl) (fun _ _ _ h => h) (Or.inl ⟨by rfl, Or.inl ?hy53⟩) ?rest53
                      case hy53 => (intro w' kk ss; (try dsimp only at ss); go_simp; first | done | with_reducible rfl)
                      try simp only [Act.put, List.setIfInBounds_toArray, List.set_cons_zero, List.set_cons_succ]
                      refine' Reg.wpG_take (i := 65) (oi := { dst := some 107, op := Op.load 30 (Operand.tmp 8), type := 30, pos := "law.go:135", after := #[{ on := 53, ground := Ground.guard }], guard := some (53, true) }) (v := _) [67, 68, 69, 70, 71, 72, 73, 74, 75, 76, 77, 78, 79, 80, 81, 82, 83, 84, 85, 86, 87, 88, 89, 90, 91, 92] [] rfl rfl (by kernel_rfl) (by kernel_rfl) (by kernel_rfl) (by kernel_rfl) (by kernel_rfl) (by kernel_rfl) (by kernel_rfl) (fun _ _ _ h => h) (Or.inl ⟨by rfl, Or.inl ?hy54⟩) ?rest54
                      case hy54 => (intro w' kk ss; (try dsimp only at ss); go_simp; first | done | with_reducible rfl)
                      try simp only [Act.put, List.setIfInBounds_toArray, List.set_cons_zero, List.set_cons_succ]
                      refine' Reg.wpG_take (i := 66) (oi := { dst := some 108, op := Op.load 30 (Operand.tmp 9), type := 30, pos := "law.go:135", after := #[{ on := 53, ground := Ground.guard }], guard := some (53, true) }) (v := _) [67, 68, 69, 70, 71, 72, 73, 74, 75, 76, 77, 78, 79, 80, 81, 82, 83, 84, 85, 86, 87, 88, 89, 90, 91, 92] [] rfl rfl (by kernel_rfl) (by kernel_rfl) (by kernel_rfl) (by kernel_rfl) (by kernel_rfl) (by kernel_rfl) (by kernel_rfl) (fun _ _ _ h => h) (Or.inl ⟨by rfl, Or.inl ?hy55⟩) ?rest55
                      case hy55 => (intro w' kk ss; (try dsimp only at ss); go_simp; first | done | with_reducible rfl)
                      try simp only [Act.put, List.setIfInBounds_toArray, List.set_cons_zero, List.set_cons_succ]
                      refine Reg.wpG_ready (rs := [59]) (by kernel_rfl) (by simp) (fun wq10 k10' sq10 => ?_)
                      have hr0 := hr0.trans k10'
                      have r1 := r1.since k10'
                      have t6 := t6.since k10'
                      have t8 := t8.since k10'
                      refine Reg.AllG.first (o := { dst := some 101, op := Op.call { callee := Callee.value (Operand.tmp 98), args := #[Operand.tmp 99, Operand.tmp 100], argTypes := #[30, 30] }, type := 30, pos := "law.go:135", after := #[{ on := 56, ground := Ground.data }, { on := 57, ground := Ground.data }, { on := 58, ground := Ground.data }, { on := 53, ground := Ground.chain }, { on := 53, ground := Ground.guard }], guard := some (53, true) }) rfl (by rfl) (fun K hK => ?_) Reg.AllG.nil
                      obtain ⟨⟨o0, o1⟩, ⟨o2, o3⟩, ⟨o4, o5⟩, o6, o7⟩ := hall.out _ hr0
                      go_simp
                      (with_reducible refine (Law03.mulc_any a0 a1 cap0 cap1 b0 b1 d0 d1 wq10 (R0.out.since (hS0.trans (hS.trans hr0))) (R1.out.since (hS0.trans (hS.trans hr0))) M0.out M1.out E3a.out).mono ?_)
                      rintro e y110 ⟨B10, p10, rfl, t10, hx⟩
                      refine hK.out _ _ ?_ hx ?_
                      · exact hall.out _ (hr0.trans hx)
                      clear hK K o0 o1 o2 o3 o4 o5 o6 o7
                      have hr0 := hr0.trans hx
                      have r1 := r1.since hx
                      have t6 := t6.since hx
                      have t8 := t8.since hx
                      clear hx
                      try simp only [Act.put, List.setIfInBounds_toArray, List.set_cons_zero, List.set_cons_succ]
                      as_aux_lemma =>
                        refine Reg.wpG_ready (rs := [61]) (by kernel_rfl) (by simp) (fun wq11 k11' sq11 => ?_)
                        have hr0 := hr0.trans k11'
                        have r1 := r1.since k11'
                        have t6 := t6.since k11'
                        have t8 := t8.since k11'
                        have t10 := t10.since k11'
                        refine Reg.AllG.first (o := { dst := some 103, op := Op.call { callee := Callee.value (Operand.tmp 97), args := #[Operand.tmp 101, Operand.tmp 102], argTypes := #[30, 30] }, type := 30, pos := "law.go:135", after := #[{ on := 55, ground := Ground.data }, { on := 59, ground := Ground.data }, { on := 60, ground := Ground.data }, { on := 59, ground := Ground.chain }, { on := 53, ground := Ground.guard }], guard := some (53, true) }) rfl (by rfl) (fun K hK => ?_) Reg.AllG.nil
                        obtain ⟨⟨o0, o1⟩, ⟨o2, o3⟩, ⟨o4, o5⟩, o6, o7⟩ := hall.out _ hr0
                        go_simp
                        (with_reducible refine (Law03.mulc_any B10 a2 p10 cap2 (n 3) b2 (s 3) d2 wq11 (t10) (R2.out.since (hS0.trans (hS.trans hr0))) (LEN.out 3) M2.out E6a.out).mono ?_)
                        rintro e y111 ⟨B11, p11, rfl, t11, hx⟩
                        refine hK.out _ _ ?_ hx ?_
                        · exact hall.out _ (hr0.trans hx)
                        clear hK K o0 o1 o2 o3 o4 o5 o6 o7
                        have hr0 := hr0.trans hx
                        have r1 := r1.since hx
                        have t6 := t6.since hx
                        have t8 := t8.since hx
                        have t10 := t10.since hx
                        clear hx
                        try simp only [Act.put, List.setIfInBounds_toArray, List.set_cons_zero, List.set_cons_succ]
                        as_aux_lemma =>
                          refine Reg.wpG_ready (rs := [67]) (by kernel_rfl) (by simp) (fun wq12 k12' sq12 => ?_)
                          have hr0 := hr0.trans k12'
                          have r1 := r1.since k12'
                          have t6 := t6.since k12'
                          have t8 := t8.since k12'
                          have t10 := t10.since k12'
                          have t11 := t11.since k12'
                          refine Reg.AllG.first (o := { dst := some 109, op := Op.call { callee := Callee.value (Operand.tmp 106), args := #[Operand.tmp 107, Operand.tmp 108], argTypes := #[30, 30] }, type := 30, pos := "law.go:135", after := #[{ on := 64, ground := Ground.data }, { on := 65, ground := Ground.data }, { on := 66, ground := Ground.data }, { on := 61, ground := Ground.chain }, { on := 53, ground := Ground.guard }], guard := some (53, true) }) rfl (by rfl) (fun K hK => ?_) Reg.AllG.nil
                          obtain ⟨⟨o0, o1⟩, ⟨o2, o3⟩, ⟨o4, o5⟩, o6, o7⟩ := hall.out _ hr0
                          go_simp
                          (with_reducible refine (Law03.mulc_any a1 a2 cap1 cap2 b1 b2 d1 d2 wq12 (R1.out.since (hS0.trans (hS.trans hr0))) (R2.out.since (hS0.trans (hS.trans hr0))) M1.out M2.out E7.out).mono ?_)
                          rintro e y112 ⟨B12, p12, rfl, t12, hx⟩
                          refine hK.out _ _ ?_ hx ?_
                          · exact hall.out _ (hr0.trans hx)
                          clear hK K o0 o1 o2 o3 o4 o5 o6 o7
                          have hr0 := hr0.trans hx
                          have r1 := r1.since hx
                          have t6 := t6.since hx
                          have t8 := t8.since hx
                          have t10 := t10.since hx
                          have t11 := t11.since hx
                          clear hx
                          try simp only [Act.put, List.setIfInBounds_toArray, List.set_cons_zero, List.set_cons_succ]
                          as_aux_lemma =>
                            refine Reg.wpG_ready (rs := [68]) (by kernel_rfl) (by simp) (fun wq13 k13' sq13 => ?_)
                            have hr0 := hr0.trans k13'
                            have r1 := r1.since k13'
                            have t6 := t6.since k13'
                            have t8 := t8.since k13'
                            have t10 := t10.since k13'
                            have t11 := t11.since k13'
                            have t12 := t12.since k13'
                            refine Reg.AllG.first (o := { dst := some 110, op := Op.call { callee := Callee.value (Operand.tmp 104), args := #[Operand.tmp 105, Operand.tmp 109], argTypes := #[30, 30] }, type := 30, pos := "law.go:135", after := #[{ on := 62, ground := Ground.data }, { on := 63, ground := Ground.data }, { on := 67, ground := Ground.data }, { on := 67, ground := Ground.chain }, { on := 53, ground := Ground.guard }], guard := some (53, true) }) rfl (by rfl) (fun K hK => ?_) Reg.AllG.nil
                            obtain ⟨⟨o0, o1⟩, ⟨o2, o3⟩, ⟨o4, o5⟩, o6, o7⟩ := hall.out _ hr0
                            go_simp
                            (with_reducible refine (Law03.mulc_any a0 B12 cap0 p12 b0 (n 7) d0 (s 7) wq13 (R0.out.since (hS0.trans (hS.trans hr0))) (t12) M0.out (LEN.out 7) E6b.out).mono ?_)
                            rintro e y113 ⟨B13, p13, rfl, t13, hx⟩
                            refine hK.out _ _ ?_ hx ?_
                            · exact hall.out _ (hr0.trans hx)
                            clear hK K o0 o1 o2 o3 o4 o5 o6 o7
                            have hr0 := hr0.trans hx
                            have r1 := r1.since hx
                            have t6 := t6.since hx
                            have t8 := t8.since hx
                            have t10 := t10.since hx
                            have t11 := t11.since hx
                            have t12 := t12.since hx
                            clear hx
                            try simp only [Act.put, List.setIfInBounds_toArray, List.set_cons_zero, List.set_cons_succ]
                            as_aux_lemma =>
                              refine Reg.wpG_take (i := 69) (oi := { dst := some 111, op := Op.call { callee := Callee.value (Operand.tmp 96), args := #[Operand.tmp 103, Operand.tmp 110], argTypes := #[30, 30] }, type := 4, pos := "law.go:135", after := #[{ on := 54, ground := Ground.data }, { on := 61, ground := Ground.data }, { on := 68, ground := Ground.data }, { on := 68, ground := Ground.chain }, { on := 53, ground := Ground.guard }], guard := some (53, true) }) (v := .bool true) [70, 71, 72, 73, 74, 75, 76, 77, 78, 79, 80, 81, 82, 83, 84, 85, 86, 87, 88, 89, 90, 91, 92] [] rfl rfl (by kernel_rfl) (by kernel_rfl) (by kernel_rfl) (by kernel_rfl) (by kernel_rfl) (by kernel_rfl) (by kernel_rfl) (fun _ _ _ h => h) (Or.inl ⟨by rfl, Or.inr ⟨35, #[sv (n 6) (.slice B11 (s 6).length p11), sv (n 6) (.slice B13 (s 6).length p13)], fun w' kk ss => ⟨?_, ?_⟩⟩⟩) ?_
                              · (try dsimp only at ss); go_simp
                              · exact (Law03.samec_any B11 B13 p11 p13 (n 6) (s 6) w' (t11.since kk) (t13.since kk) (LEN.out 6) (RGT.out 6)).mono fun e w'' h => ⟨h.1, h.2, hall.out _ (hr0.trans (kk.trans h.2))⟩
                              try simp only [Act.put, List.setIfInBounds_toArray, List.set_cons_zero, List.set_cons_succ]
                              refine' Reg.wpG_take (i := 70) (oi := { dst := some 112, op := Op.pick (Operand.tmp 95) (Operand.tmp 111) (Operand.const (Value.bool false)), type := 4, pos := "law.go:135", after := #[{ on := 53, ground := Ground.data }, { on := 69, ground := Ground.data }], guard := none }) (v := _) [71, 72, 73, 74, 75, 76, 77, 78, 79, 80, 81, 82, 83, 84, 85, 86, 87, 88, 89, 90, 91, 92] [] rfl rfl (by kernel_rfl) (by kernel_rfl) (by kernel_rfl) (by kernel_rfl) (by kernel_rfl) (by kernel_rfl) (by kernel_rfl) (fun _ _ _ h => h) (Or.inl ⟨by rfl, Or.inl ?hy56⟩) ?rest56
                              case hy56 => (intro w' kk ss; (try dsimp only at ss); go_simp; first | done | with_reducible rfl)
                              try simp only [Act.put, List.setIfInBounds_toArray, List.set_cons_zero, List.set_cons_succ]
                              refine' Reg.wpG_take (i := 71) (oi := { dst := some 113, op := Op.move (Operand.tmp 112), type := 4, pos := "law.go:135", after := #[{ on := 70, ground := Ground.data }, { on := 69, ground := Ground.chain }], guard := none }) (v := _) [72, 73, 74, 75, 76, 77, 78, 79, 80, 81, 82, 83, 84, 85, 86, 87, 88, 89, 90, 91, 92] [] rfl rfl (by kernel_rfl) (by kernel_rfl) (by kernel_rfl) (by kernel_rfl) (by kernel_rfl) (by kernel_rfl) (by kernel_rfl) (fun _ _ _ h => h) (Or.inl ⟨by rfl, Or.inl ?hy57⟩) ?rest57
                              case hy57 => (intro w' kk ss; (try dsimp only at ss); go_simp; first | done | with_reducible rfl)
                              try simp only [Act.put, List.setIfInBounds_toArray, List.set_cons_zero, List.set_cons_succ]
                              refine' Reg.wpG_take (i := 72) (oi := { dst := some 114, op := Op.move (Operand.tmp 12), type := 56, pos := "law.go:135", after := #[{ on := 71, ground := Ground.guard }], guard := some (71, true) }) (v := _) [90, 91, 92] [] rfl rfl (by kernel_rfl) (by kernel_rfl) (by kernel_rfl) (by kernel_rfl) (by kernel_rfl) (by kernel_rfl) (by kernel_rfl) (fun _ _ _ h => h) (Or.inl ⟨by rfl, Or.inl ?hy58⟩) ?rest58
                              case hy58 => (intro w' kk ss; (try dsimp only at ss); go_simp; first | done | with_reducible rfl)
                              try simp only [Act.put, List.setIfInBounds_toArray, List.set_cons_zero, List.set_cons_succ]
                              refine' Reg.wpG_take (i := 73) (oi := { dst := some 115, op := Op.move (Operand.tmp 11), type := 55, pos := "law.go:135", after := #[{ on := 71, ground := Ground.guard }], guard := some (71, true) }) (v := _) [79, 84, 88, 89, 90, 91, 92] [] rfl rfl (by kernel_rfl) (by kernel_rfl) (by kernel_rfl) (by kernel_rfl) (by kernel_rfl) (by kernel_rfl) (by kernel_rfl) (fun _ _ _ h => h) (Or.inl ⟨by rfl, Or.inl ?hy59⟩) ?rest59
                              case hy59 => (intro w' kk ss; (try dsimp only at ss); go_simp; first | done | with_reducible rfl)
                              try simp only [Act.put, List.setIfInBounds_toArray, List.set_cons_zero, List.set_cons_succ]
                              refine' Reg.wpG_take (i := 74) (oi := { dst := some 116, op := Op.move (Operand.tmp 10), type := 55, pos := "law.go:135", after := #[{ on := 71, ground := Ground.guard }], guard := some (71, true) }) (v := _) [77, 79, 84, 88, 89, 90, 91, 92] [] rfl rfl (by kernel_rfl) (by kernel_rfl) (by kernel_rfl) (by kernel_rfl) (by kernel_rfl) (by kernel_rfl) (by kernel_rfl) (fun _ _ _ h => h) (Or.inl ⟨by rfl, Or.inl ?hy60⟩) ?rest60
                              case hy60 => (intro w' kk ss; (try dsimp only at ss); go_simp; first | done | with_reducible rfl)
                              try simp only [Act.put, List.setIfInBounds_toArray, List.set_cons_zero, List.set_cons_succ]
                              refine' Reg.wpG_take (i := 75) (oi := { dst := some 117, op := Op.load 30 (Operand.tmp 7), type := 30, pos := "law.go:135", after := #[{ on := 71, ground := Ground.guard }], guard := some (71, true) }) (v := _) [77, 79, 84, 88, 89, 90, 91, 92] [] rfl rfl (by kernel_rfl) (by kernel_rfl) (by kernel_rfl) (by kernel_rfl) (by kernel_rfl) (by kernel_rfl) (by kernel_rfl) (fun _ _ _ h => h) (Or.inl ⟨by rfl, Or.inl ?hy61⟩) ?rest61
                              case hy61 => (intro w' kk ss; (try dsimp only at ss); go_simp; first | done | with_reducible rfl)
                              try simp only [Act.put, List.setIfInBounds_toArray, List.set_cons_zero, List.set_cons_succ]
                              refine' Reg.wpG_take (i := 76) (oi := { dst := some 118, op := Op.load 30 (Operand.tmp 8), type := 30, pos := "law.go:135", after := #[{ on := 71, ground := Ground.guard }], guard := some (71, true) }) (v := _) [77, 79, 84, 88, 89, 90, 91, 92] [] rfl rfl (by kernel_rfl) (by kernel_rfl) (by kernel_rfl) (by kernel_rfl) (by kernel_rfl) (by kernel_rfl) (by kernel_rfl) (fun _ _ _ h => h) (Or.inl ⟨by rfl, Or.inl ?hy62⟩) ?rest62
                              case hy62 => (intro w' kk ss; (try dsimp only at ss); go_simp; first | done | with_reducible rfl)
                              try simp only [Act.put, List.setIfInBounds_toArray, List.set_cons_zero, List.set_cons_succ]
                              refine' Reg.wpG_take (i := 78) (oi := { dst := some 120, op := Op.load 30 (Operand.tmp 9), type := 30, pos := "law.go:135", after := #[{ on := 71, ground := Ground.guard }], guard := some (71, true) }) (v := _) [79, 84, 88, 89, 90, 91, 92] [] rfl rfl (by kernel_rfl) (by kernel_rfl) (by kernel_rfl) (by kernel_rfl) (by kernel_rfl) (by kernel_rfl) (by kernel_rfl) (fun _ _ _ h => h) (Or.inl ⟨by rfl, Or.inl ?hy63⟩) ?rest63
                              case hy63 => (intro w' kk ss; (try dsimp only at ss); go_simp; first | done | with_reducible rfl)
                              try simp only [Act.put, List.setIfInBounds_toArray, List.set_cons_zero, List.set_cons_succ]
                              refine' Reg.wpG_take (i := 80) (oi := { dst := some 122, op := Op.move (Operand.tmp 10), type := 55, pos := "law.go:135", after := #[{ on := 71, ground := Ground.guard }], guard := some (71, true) }) (v := _) [89, 90, 91, 92] [] rfl rfl (by kernel_rfl) (by kernel_rfl) (by kernel_rfl) (by kernel_rfl) (by kernel_rfl) (by kernel_rfl) (by kernel_rfl) (fun _ _ _ h => h) (Or.inl ⟨by rfl, Or.inl ?hy64⟩) ?rest64
                              case hy64 => (intro w' kk ss; (try dsimp only at ss); go_simp; first | done | with_reducible rfl)
                              try simp only [Act.put, List.setIfInBounds_toArray, List.set_cons_zero, List.set_cons_succ]
                              refine' Reg.wpG_take (i := 81) (oi := { dst := some 123, op := Op.move (Operand.tmp 11), type := 55, pos := "law.go:135", after := #[{ on := 71, ground := Ground.guard }], guard := some (71, true) }) (v := _) [84, 88, 89, 90, 91, 92] [] rfl rfl (by kernel_rfl) (by kernel_rfl) (by kernel_rfl) (by kernel_rfl) (by kernel_rfl) (by kernel_rfl) (by kernel_rfl) (fun _ _ _ h => h) (Or.inl ⟨by rfl, Or.inl ?hy65⟩) ?rest65
                              case hy65 => (intro w' kk ss; (try dsimp only at ss); go_simp; first | done | with_reducible rfl)
                              try simp only [Act.put, List.setIfInBounds_toArray, List.set_cons_zero, List.set_cons_succ]
                              refine' Reg.wpG_take (i := 82) (oi := { dst := some 124, op := Op.load 30 (Operand.tmp 7), type := 30, pos := "law.go:135", after := #[{ on := 71, ground := Ground.guard }], guard := some (71, true) }) (v := _) [84, 88, 89, 90, 91, 92] [] rfl rfl (by kernel_rfl) (by kernel_rfl) (by kernel_rfl) (by kernel_rfl) (by kernel_rfl) (by kernel_rfl) (by kernel_rfl) (fun _ _ _ h => h) (Or.inl ⟨by rfl, Or.inl ?hy66⟩) ?rest66
                              case hy66 => (intro w' kk ss; (try dsimp only at ss); go_simp; first | done | with_reducible rfl)
                              try simp only [Act.put, List.setIfInBounds_toArray, List.set_cons_zero, List.set_cons_succ]
                              refine' Reg.wpG_take (i := 83) (oi := { dst := some 125, op := Op.load 30 (Operand.tmp 9), type := 30, pos := "law.go:135", after := #[{ on := 71, ground := Ground.guard }], guard := some (71, true) }) (v := _) [84, 88, 89, 90, 91, 92] [] rfl rfl (by kernel_rfl) (by kernel_rfl) (by kernel_rfl) (by kernel_rfl) (by kernel_rfl) (by kernel_rfl) (by kernel_rfl) (fun _ _ _ h => h) (Or.inl ⟨by rfl, Or.inl ?hy67⟩) ?rest67
                              case hy67 => (intro w' kk ss; (try dsimp only at ss); go_simp; first | done | with_reducible rfl)
                              try simp only [Act.put, List.setIfInBounds_toArray, List.set_cons_zero, List.set_cons_succ]
                              refine' Reg.wpG_take (i := 85) (oi := { dst := some 127, op := Op.move (Operand.tmp 11), type := 55, pos := "law.go:135", after := #[{ on := 71, ground := Ground.guard }], guard := some (71, true) }) (v := _) [88, 89, 90, 91, 92] [] rfl rfl (by kernel_rfl) (by kernel_rfl) (by kernel_rfl) (by kernel_rfl) (by kernel_rfl) (by kernel_rfl) (by kernel_rfl) (fun _ _ _ h => h) (Or.inl ⟨by rfl, Or.inl ?hy68⟩) ?rest68
                              case hy68 => (intro w' kk ss; (try dsimp only at ss); go_simp; first | done | with_reducible rfl)
                              try simp only [Act.put, List.setIfInBounds_toArray, List.set_cons_zero, List.set_cons_succ]
                              refine' Reg.wpG_take (i := 86) (oi := { dst := some 128, op := Op.load 30 (Operand.tmp 8), type := 30, pos := "law.go:135", after := #[{ on := 71, ground := Ground.guard }], guard := some (71, true) }) (v := _) [88, 89, 90, 91, 92] [] rfl rfl (by kernel_rfl) (by kernel_rfl) (by kernel_rfl) (by kernel_rfl) (by kernel_rfl) (by kernel_rfl) (by kernel_rfl) (fun _ _ _ h => h) (Or.inl ⟨by rfl, Or.inl ?hy69⟩) ?rest69
                              case hy69 => (intro w' kk ss; (try dsimp only at ss); go_simp; first | done | with_reducible rfl)
                              try simp only [Act.put, List.setIfInBounds_toArray, List.set_cons_zero, List.set_cons_succ]
                              refine' Reg.wpG_take (i := 87) (oi := { dst := some 129, op := Op.load 30 (Operand.tmp 9), type := 30, pos := "law.go:135", after := #[{ on := 71, ground := Ground.guard }], guard := some (71, true) }) (v := _) [88, 89, 90, 91, 92] [] rfl rfl (by kernel_rfl) (by kernel_rfl) (by kernel_rfl) (by kernel_rfl) (by kernel_rfl) (by kernel_rfl) (by kernel_rfl) (fun _ _ _ h => h) (Or.inl ⟨by rfl, Or.inl ?hy70⟩) ?rest70
                              case hy70 => (intro w' kk ss; (try dsimp only at ss); go_simp; first | done | with_reducible rfl)
                              try simp only [Act.put, List.setIfInBounds_toArray, List.set_cons_zero, List.set_cons_succ]
                              refine Reg.wpG_ready (rs := [77]) (by kernel_rfl) (by simp) (fun wq14 k14' sq14 => ?_)
                              have hr0 := hr0.trans k14'
                              have r1 := r1.since k14'
                              have t6 := t6.since k14'
                              have t8 := t8.since k14'
                              have t10 := t10.since k14'
                              have t12 := t12.since k14'
                              refine Reg.AllG.first (o := { dst := some 119, op := Op.call { callee := Callee.value (Operand.tmp 116), args := #[Operand.tmp 117, Operand.tmp 118], argTypes := #[30, 30] }, type := 30, pos := "law.go:135", after := #[{ on := 74, ground := Ground.data }, { on := 75, ground := Ground.data }, { on := 76, ground := Ground.data }, { on := 71, ground := Ground.chain }, { on := 71, ground := Ground.guard }], guard := some (71, true) }) rfl (by rfl) (fun K hK => ?_) Reg.AllG.nil
                              obtain ⟨⟨o0, o1⟩, ⟨o2, o3⟩, ⟨o4, o5⟩, o6, o7⟩ := hall.out _ hr0
                              go_simp
                              (with_reducible refine (Law03.addc_any a0 a1 cap0 cap1 b0 b1 d0 d1 wq14 (R0.out.since (hS0.trans (hS.trans hr0))) (R1.out.since (hS0.trans (hS.trans hr0))) M0.out M1.out E2a.out).mono ?_)
                              rintro e y114 ⟨B14, p14, rfl, t14, hx⟩
                              refine hK.out _ _ ?_ hx ?_
                              · exact hall.out _ (hr0.trans hx)
                              clear hK K o0 o1 o2 o3 o4 o5 o6 o7
                              have hr0 := hr0.trans hx
                              have r1 := r1.since hx
                              have t6 := t6.since hx
                              have t8 := t8.since hx
                              have t10 := t10.since hx
                              have t12 := t12.since hx
                              clear hx
                              try simp only [Act.put, List.setIfInBounds_toArray, List.set_cons_zero, List.set_cons_succ]
                              as_aux_lemma =>
                                refine Reg.wpG_ready (rs := [79]) (by kernel_rfl) (by simp) (fun wq15 k15' sq15 => ?_)
                                have hr0 := hr0.trans k15'
                                have r1 := r1.since k15'
                                have t6 := t6.since k15'
                                have t8 := t8.since k15'
                                have t10 := t10.since k15'
                                have t12 := t12.since k15'
                                have t14 := t14.since k15'
                                refine Reg.AllG.first (o := { dst := some 121, op := Op.call { callee := Callee.value (Operand.tmp 115), args := #[Operand.tmp 119, Operand.tmp 120], argTypes := #[30, 30] }, type := 30, pos := "law.go:135", after := #[{ on := 73, ground := Ground.data }, { on := 77, ground := Ground.data }, { on := 78, ground := Ground.data }, { on := 77, ground := Ground.chain }, { on := 71, ground := Ground.guard }], guard := some (71, true) }) rfl (by rfl) (fun K hK => ?_) Reg.AllG.nil
                                obtain ⟨⟨o0, o1⟩, ⟨o2, o3⟩, ⟨o4, o5⟩, o6, o7⟩ := hall.out _ hr0
                                go_simp
                                (with_reducible refine (Law03.mulc_any B14 a2 p14 cap2 (n 2) b2 (s 2) d2 wq15 (t14) (R2.out.since (hS0.trans (hS.trans hr0))) (LEN.out 2) M2.out E8a.out).mono ?_)
                                rintro e y115 ⟨B15, p15, rfl, t15, hx⟩
                                refine hK.out _ _ ?_ hx ?_
                                · exact hall.out _ (hr0.trans hx)
                                clear hK K o0 o1 o2 o3 o4 o5 o6 o7
                                have hr0 := hr0.trans hx
                                have r1 := r1.since hx
                                have t6 := t6.since hx
                                have t8 := t8.since hx
                                have t10 := t10.since hx
                                have t12 := t12.since hx
                                have t14 := t14.since hx
                                clear hx
                                try simp only [Act.put, List.setIfInBounds_toArray, List.set_cons_zero, List.set_cons_succ]
                                as_aux_lemma =>
                                  refine Reg.wpG_ready (rs := [84]) (by kernel_rfl) (by simp) (fun wq16 k16' sq16 => ?_)
                                  have hr0 := hr0.trans k16'
                                  have r1 := r1.since k16'
                                  have t6 := t6.since k16'
                                  have t8 := t8.since k16'
                                  have t10 := t10.since k16'
                                  have t12 := t12.since k16'
                                  have t14 := t14.since k16'
                                  have t15 := t15.since k16'
                                  refine Reg.AllG.first (o := { dst := some 126, op := Op.call { callee := Callee.value (Operand.tmp 123), args := #[Operand.tmp 124, Operand.tmp 125], argTypes := #[30, 30] }, type := 30, pos := "law.go:135", after := #[{ on := 81, ground := Ground.data }, { on := 82, ground := Ground.data }, { on := 83, ground := Ground.data }, { on := 79, ground := Ground.chain }, { on := 71, ground := Ground.guard }], guard := some (71, true) }) rfl (by rfl) (fun K hK => ?_) Reg.AllG.nil
                                  obtain ⟨⟨o0, o1⟩, ⟨o2, o3⟩, ⟨o4, o5⟩, o6, o7⟩ := hall.out _ hr0
                                  go_simp
                                  (with_reducible refine (Law03.mulc_any a0 a2 cap0 cap2 b0 b2 d0 d2 wq16 (R0.out.since (hS0.trans (hS.trans hr0))) (R2.out.since (hS0.trans (hS.trans hr0))) M0.out M2.out E9.out).mono ?_)
                                  rintro e y116 ⟨B16, p16, rfl, t16, hx⟩
                                  refine hK.out _ _ ?_ hx ?_
                                  · exact hall.out _ (hr0.trans hx)
                                  clear hK K o0 o1 o2 o3 o4 o5 o6 o7
                                  have hr0 := hr0.trans hx
                                  have r1 := r1.since hx
                                  have t6 := t6.since hx
                                  have t8 := t8.since hx
                                  have t10 := t10.since hx
                                  have t12 := t12.since hx
                                  have t14 := t14.since hx
                                  have t15 := t15.since hx
                                  clear hx
                                  try simp only [Act.put, List.setIfInBounds_toArray, List.set_cons_zero, List.set_cons_succ]
                                  as_aux_lemma =>
                                    refine Reg.wpG_ready (rs := [88]) (by kernel_rfl) (by simp) (fun wq17 k17' sq17 => ?_)
                                    have hr0 := hr0.trans k17'
                                    have r1 := r1.since k17'
                                    have t6 := t6.since k17'
                                    have t8 := t8.since k17'
                                    have t10 := t10.since k17'
                                    have t12 := t12.since k17'
                                    have t14 := t14.since k17'
                                    have t15 := t15.since k17'
                                    have t16 := t16.since k17'
                                    refine Reg.AllG.first (o := { dst := some 130, op := Op.call { callee := Callee.value (Operand.tmp 127), args := #[Operand.tmp 128, Operand.tmp 129], argTypes := #[30, 30] }, type := 30, pos := "law.go:135", after := #[{ on := 85, ground := Ground.data }, { on := 86, ground := Ground.data }, { on := 87, ground := Ground.data }, { on := 84, ground := Ground.chain }, { on := 71, ground := Ground.guard }], guard := some (71, true) }) rfl (by rfl) (fun K hK => ?_) Reg.AllG.nil
                                    obtain ⟨⟨o0, o1⟩, ⟨o2, o3⟩, ⟨o4, o5⟩, o6, o7⟩ := hall.out _ hr0
                                    go_simp
                                    (with_reducible refine (Law03.mulc_any a1 a2 cap1 cap2 b1 b2 d1 d2 wq17 (R1.out.since (hS0.trans (hS.trans hr0))) (R2.out.since (hS0.trans (hS.trans hr0))) M1.out M2.out E7.out).mono ?_)
                                    rintro e y117 ⟨B17, p17, rfl, t17, hx⟩
                                    refine hK.out _ _ ?_ hx ?_
                                    · exact hall.out _ (hr0.trans hx)
                                    clear hK K o0 o1 o2 o3 o4 o5 o6 o7
                                    have hr0 := hr0.trans hx
                                    have r1 := r1.since hx
                                    have t6 := t6.since hx
                                    have t8 := t8.since hx
                                    have t10 := t10.since hx
                                    have t12 := t12.since hx
                                    have t14 := t14.since hx
                                    have t15 := t15.since hx
                                    have t16 := t16.since hx
                                    clear hx
                                    try simp only [Act.put, List.setIfInBounds_toArray, List.set_cons_zero, List.set_cons_succ]
                                    as_aux_lemma =>
                                      refine Reg.wpG_ready (rs := [89]) (by kernel_rfl) (by simp) (fun wq18 k18' sq18 => ?_)
                                      have hr0 := hr0.trans k18'
                                      have r1 := r1.since k18'
                                      have t6 := t6.since k18'
                                      have t8 := t8.since k18'
                                      have t10 := t10.since k18'
                                      have t12 := t12.since k18'
                                      have t14 := t14.since k18'
                                      have t15 := t15.since k18'
                                      have t16 := t16.since k18'
                                      have t17 := t17.since k18'
                                      refine Reg.AllG.first (o := { dst := some 131, op := Op.call { callee := Callee.value (Operand.tmp 122), args := #[Operand.tmp 126, Operand.tmp 130], argTypes := #[30, 30] }, type := 30, pos := "law.go:135", after := #[{ on := 80, ground := Ground.data }, { on := 84, ground := Ground.data }, { on := 88, ground := Ground.data }, { on := 88, ground := Ground.chain }, { on := 71, ground := Ground.guard }], guard := some (71, true) }) rfl (by rfl) (fun K hK => ?_) Reg.AllG.nil
                                      obtain ⟨⟨o0, o1⟩, ⟨o2, o3⟩, ⟨o4, o5⟩, o6, o7⟩ := hall.out _ hr0
                                      go_simp
                                      (with_reducible refine (Law03.addc_any B16 B17 p16 p17 (n 9) (n 7) (s 9) (s 7) wq18 (t16) (t17) (LEN.out 9) (LEN.out 7) E8b.out).mono ?_)
                                      rintro e y118 ⟨B18, p18, rfl, t18, hx⟩
                                      refine hK.out _ _ ?_ hx ?_
                                      · exact hall.out _ (hr0.trans hx)
                                      clear hK K o0 o1 o2 o3 o4 o5 o6 o7
                                      have hr0 := hr0.trans hx
                                      have r1 := r1.since hx
                                      have t6 := t6.since hx
                                      have t8 := t8.since hx
                                      have t10 := t10.since hx
                                      have t12 := t12.since hx
                                      have t14 := t14.since hx
                                      have t15 := t15.since hx
                                      have t16 := t16.since hx
                                      have t17 := t17.since hx
                                      clear hx
                                      try simp only [Act.put, List.setIfInBounds_toArray, List.set_cons_zero, List.set_cons_succ]
                                      as_aux_lemma =>
                                        refine Reg.wpG_take (i := 90) (oi := { dst := some 132, op := Op.call { callee := Callee.value (Operand.tmp 114), args := #[Operand.tmp 121, Operand.tmp 131], argTypes := #[30, 30] }, type := 4, pos := "law.go:135", after := #[{ on := 72, ground := Ground.data }, { on := 79, ground := Ground.data }, { on := 89, ground := Ground.data }, { on := 89, ground := Ground.chain }, { on := 71, ground := Ground.guard }], guard := some (71, true) }) (v := .bool true) [91, 92] [] rfl rfl (by kernel_rfl) (by kernel_rfl) (by kernel_rfl) (by kernel_rfl) (by kernel_rfl) (by kernel_rfl) (by kernel_rfl) (fun _ _ _ h => h) (Or.inl ⟨by rfl, Or.inr ⟨35, #[sv (n 8) (.slice B15 (s 8).length p15), sv (n 8) (.slice B18 (s 8).length p18)], fun w' kk ss => ⟨?_, ?_⟩⟩⟩) ?_
                                        · (try dsimp only at ss); go_simp
                                        · exact (Law03.samec_any B15 B18 p15 p18 (n 8) (s 8) w' (t15.since kk) (t18.since kk) (LEN.out 8) (RGT.out 8)).mono fun e w'' h => ⟨h.1, h.2, hall.out _ (hr0.trans (kk.trans h.2))⟩
                                        try simp only [Act.put, List.setIfInBounds_toArray, List.set_cons_zero, List.set_cons_succ]
                                        refine' Reg.wpG_take (i := 91) (oi := { dst := some 133, op := Op.pick (Operand.tmp 113) (Operand.tmp 132) (Operand.const (Value.bool false)), type := 4, pos := "law.go:135", after := #[{ on := 71, ground := Ground.data }, { on := 90, ground := Ground.data }], guard := none }) (v := _) [92] [] rfl rfl (by kernel_rfl) (by kernel_rfl) (by kernel_rfl) (by kernel_rfl) (by kernel_rfl) (by kernel_rfl) (by kernel_rfl) (fun _ _ _ h => h) (Or.inl ⟨by rfl, Or.inl ?hy71⟩) ?rest71
                                        case hy71 => (intro w' kk ss; (try dsimp only at ss); go_simp; first | done | with_reducible rfl)
                                        try simp only [Act.put, List.setIfInBounds_toArray, List.set_cons_zero, List.set_cons_succ]
                                        refine' Reg.wpG_take (i := 92) (oi := { dst := some 6, op := Op.assign (Operand.tmp 133), type := 4, pos := "law.go:135", after := #[{ on := 91, ground := Ground.data }, { on := 90, ground := Ground.chain }, { on := 0, ground := Ground.phase }, { on := 1, ground := Ground.phase }, { on := 2, ground := Ground.phase }, { on := 3, ground := Ground.phase }, { on := 4, ground := Ground.phase }, { on := 5, ground := Ground.phase }, { on := 6, ground := Ground.phase }, { on := 7, ground := Ground.phase }, { on := 8, ground := Ground.phase }, { on := 9, ground := Ground.phase }, { on := 10, ground := Ground.phase }, { on := 11, ground := Ground.phase }, { on := 12, ground := Ground.phase }, { on := 13, ground := Ground.phase }, { on := 14, ground := Ground.phase }, { on := 15, ground := Ground.phase }, { on := 16, ground := Ground.phase }, { on := 17, ground := Ground.phase }, { on := 18, ground := Ground.phase }, { on := 19, ground := Ground.phase }, { on := 20, ground := Ground.phase }, { on := 21, ground := Ground.phase }, { on := 22, ground := Ground.phase }, { on := 23, ground := Ground.phase }, { on := 24, ground := Ground.phase }, { on := 25, ground := Ground.phase }, { on := 26, ground := Ground.phase }, { on := 27, ground := Ground.phase }, { on := 28, ground := Ground.phase }, { on := 29, ground := Ground.phase }, { on := 30, ground := Ground.phase }, { on := 31, ground := Ground.phase }, { on := 32, ground := Ground.phase }, { on := 33, ground := Ground.phase }, { on := 34, ground := Ground.phase }, { on := 35, ground := Ground.phase }, { on := 36, ground := Ground.phase }, { on := 37, ground := Ground.phase }, { on := 38, ground := Ground.phase }, { on := 39, ground := Ground.phase }, { on := 40, ground := Ground.phase }, { on := 41, ground := Ground.phase }, { on := 42, ground := Ground.phase }, { on := 43, ground := Ground.phase }, { on := 44, ground := Ground.phase }, { on := 45, ground := Ground.phase }, { on := 46, ground := Ground.phase }, { on := 47, ground := Ground.phase }, { on := 48, ground := Ground.phase }, { on := 49, ground := Ground.phase }, { on := 50, ground := Ground.phase }, { on := 51, ground := Ground.phase }, { on := 52, ground := Ground.phase }, { on := 53, ground := Ground.phase }, { on := 54, ground := Ground.phase }, { on := 55, ground := Ground.phase }, { on := 56, ground := Ground.phase }, { on := 57, ground := Ground.phase }, { on := 58, ground := Ground.phase }, { on := 59, ground := Ground.phase }, { on := 60, ground := Ground.phase }, { on := 61, ground := Ground.phase }, { on := 62, ground := Ground.phase }, { on := 63, ground := Ground.phase }, { on := 64, ground := Ground.phase }, { on := 65, ground := Ground.phase }, { on := 66, ground := Ground.phase }, { on := 67, ground := Ground.phase }, { on := 68, ground := Ground.phase }, { on := 69, ground := Ground.phase }, { on := 70, ground := Ground.phase }, { on := 71, ground := Ground.phase }, { on := 72, ground := Ground.phase }, { on := 73, ground := Ground.phase }, { on := 74, ground := Ground.phase }, { on := 75, ground := Ground.phase }, { on := 76, ground := Ground.phase }, { on := 77, ground := Ground.phase }, { on := 78, ground := Ground.phase }, { on := 79, ground := Ground.phase }, { on := 80, ground := Ground.phase }, { on := 81, ground := Ground.phase }, { on := 82, ground := Ground.phase }, { on := 83, ground := Ground.phase }, { on := 84, ground := Ground.phase }, { on := 85, ground := Ground.phase }, { on := 86, ground := Ground.phase }, { on := 87, ground := Ground.phase }, { on := 88, ground := Ground.phase }, { on := 89, ground := Ground.phase }, { on := 90, ground := Ground.phase }, { on := 91, ground := Ground.phase }], guard := none }) (v := _) [] [] rfl rfl (by kernel_rfl) (by kernel_rfl) (by kernel_rfl) (by kernel_rfl) (by kernel_rfl) (by kernel_rfl) (by kernel_rfl) (fun _ _ _ h => h) (Or.inl ⟨by rfl, Or.inl ?hy72⟩) ?rest72
                                        case hy72 => (intro w' kk ss; (try dsimp only at ss); go_simp; first | done | with_reducible rfl)
                                        try simp only [Act.put, List.setIfInBounds_toArray, List.set_cons_zero, List.set_cons_succ]
                                        refine Reg.wpG_done (by kernel_rfl) (fun we ke se => ?_) _
                                        refine NoPanic.normal ?_
                                        go_wp2_with fail
                                        go_ret
                                        exact ⟨rfl, hS0.trans (hS.trans (hr0.trans ke))⟩

set_option maxRecDepth 100000 in
theorem lifted (os : Os) (started : os.Started) (H : Type) (enc : TypeId × Value → H) :
    ReturnsInHanded {} Try.checked os 6 .any (Rows.signedLawsSpec.pre6 enc Try.prog Try.f6 Rows.signedLawsRow.domain false) (Rows.signedLawsSpec.post enc Try.prog Try.f6 false true false false) := by
  refine returnsInHanded_of_change (C := Try.checked) own started (by kernel_rfl) Try.func6
    (ChangeSpec.witness6 (enc := enc) (C := Try.checked) false ⟨#[], #[.agg #[.bool false, .slice none 0 0], .agg #[.bool false, .slice none 0 0], .agg #[.bool false, .slice none 0 0]], []⟩ 8 (by kernel_rfl) (by kernel_rfl) (by kernel_rfl) (by kernel_rfl)) ?_
  intro W base args ds gs before hval0 hW hcnd _
  have hval : ∀ (j : Nat) t v, Try.f6.params[j]? = some t → args[j]? = some v → Value.okWide Try.prog W .any base t v := hval0
  have hW' := hW
  obtain ⟨p, q, hA0, hV, rfl, hfz, hnd⟩ := hW
  have hA : DataW.TrodAll enc Try.prog W 0 (fun _ => true) true Try.f6.params.toList args.toList ds p := hA0
  rw [Try.params6] at hA hval
  obtain ⟨v0, vs0, d0, ds0, p0, q0, hargs, rfl, rfl, h0, r0⟩ := trodAll_cons hA
  obtain ⟨v1, vs1, d1, ds1, p1, q1, rfl, rfl, rfl, h1, r1⟩ := trodAll_cons r0
  obtain ⟨v2, vs2, d2, ds2, p2, q2, rfl, rfl, rfl, h2, r2⟩ := trodAll_cons r1
  obtain ⟨rfl, rfl, rfl⟩ := trodAll_nil r2
  obtain rfl : args = #[v0, v1, v2] := by cases args; simp_all
  obtain ⟨rfl, rfl⟩ := trodVars_none hV
  have k0 := h0
  have lt0 : ∀ x ∈ p0, x.block < W.heap.size := by obtain ⟨m, hm⟩ := k0; exact DataW.trod_lt m _ _ _ hm
  obtain ⟨cb0, cm0, yb0, ym0, mm0, rfl, rfl, rfl, hb0, hm0⟩ := open_agg2 Try.underlying24 (by kernel_rfl) cells24 (hval 0 24 v0 rfl rfl) h0
  obtain ⟨b0, eb0, xb0⟩ := DataW.trod_bool Try.underlying4 hb0
  simp at eb0
  subst eb0
  obtain ⟨a0, len0, cap0, em0⟩ := slice_form Try.underlying22 hm0
  simp at em0
  subst em0
  obtain ⟨z0, w0⟩ : ∃ zs, IsRow .u32 W a0 len0 cap0 zs := by
    have hf := hm0
    rcases open_ints Try.underlying22 Try.underlying59 (by kernel_rfl) hf with ⟨hcs, _⟩ | ⟨x, l, c, zs, hcs, _, hl, hm, hz, _, hcell, hwz⟩
    · simp [Value.cells] at hcs
      obtain ⟨rfl, rfl, rfl⟩ := hcs
      exact ⟨[], .inl ⟨rfl, rfl, rfl, rfl⟩⟩
    · simp [Value.cells] at hcs
      obtain ⟨rfl, rfl, rfl⟩ := hcs
      exact ⟨zs, .inr ⟨_, rfl, hl, hm, by simpa using hz, hcell, hwz⟩⟩
  have k1 := h1
  have lt1 : ∀ x ∈ p1, x.block < W.heap.size := by obtain ⟨m, hm⟩ := k1; exact DataW.trod_lt m _ _ _ hm
  obtain ⟨cb1, cm1, yb1, ym1, mm1, rfl, rfl, rfl, hb1, hm1⟩ := open_agg2 Try.underlying24 (by kernel_rfl) cells24 (hval 1 24 v1 rfl rfl) h1
  obtain ⟨b1, eb1, xb1⟩ := DataW.trod_bool Try.underlying4 hb1
  simp at eb1
  subst eb1
  obtain ⟨a1, len1, cap1, em1⟩ := slice_form Try.underlying22 hm1
  simp at em1
  subst em1
  obtain ⟨z1, w1⟩ : ∃ zs, IsRow .u32 W a1 len1 cap1 zs := by
    have hf := hm1
    rcases open_ints Try.underlying22 Try.underlying59 (by kernel_rfl) hf with ⟨hcs, _⟩ | ⟨x, l, c, zs, hcs, _, hl, hm, hz, _, hcell, hwz⟩
    · simp [Value.cells] at hcs
      obtain ⟨rfl, rfl, rfl⟩ := hcs
      exact ⟨[], .inl ⟨rfl, rfl, rfl, rfl⟩⟩
    · simp [Value.cells] at hcs
      obtain ⟨rfl, rfl, rfl⟩ := hcs
      exact ⟨zs, .inr ⟨_, rfl, hl, hm, by simpa using hz, hcell, hwz⟩⟩
  have k2 := h2
  have lt2 : ∀ x ∈ p2, x.block < W.heap.size := by obtain ⟨m, hm⟩ := k2; exact DataW.trod_lt m _ _ _ hm
  obtain ⟨cb2, cm2, yb2, ym2, mm2, rfl, rfl, rfl, hb2, hm2⟩ := open_agg2 Try.underlying24 (by kernel_rfl) cells24 (hval 2 24 v2 rfl rfl) h2
  obtain ⟨b2, eb2, xb2⟩ := DataW.trod_bool Try.underlying4 hb2
  simp at eb2
  subst eb2
  obtain ⟨a2, len2, cap2, em2⟩ := slice_form Try.underlying22 hm2
  simp at em2
  subst em2
  obtain ⟨z2, w2⟩ : ∃ zs, IsRow .u32 W a2 len2 cap2 zs := by
    have hf := hm2
    rcases open_ints Try.underlying22 Try.underlying59 (by kernel_rfl) hf with ⟨hcs, _⟩ | ⟨x, l, c, zs, hcs, _, hl, hm, hz, _, hcell, hwz⟩
    · simp [Value.cells] at hcs
      obtain ⟨rfl, rfl, rfl⟩ := hcs
      exact ⟨[], .inl ⟨rfl, rfl, rfl, rfl⟩⟩
    · simp [Value.cells] at hcs
      obtain ⟨rfl, rfl, rfl⟩ := hcs
      exact ⟨zs, .inr ⟨_, rfl, hl, hm, by simpa using hz, hcell, hwz⟩⟩
  clear hA0 hval0
  refine (walk b0 a0 len0 cap0 z0 b1 a1 len1 cap1 z1 b2 a2 len2 cap2 z2 W w0 w1 w2).mono fun e W' ⟨he, bel⟩ => ?_
  subst he
  exact ⟨_, rfl, _, _, _, [], _, [], hW', trodAll_mk1 (shut_bool Try.underlying4 _), (trodAll_cons_mk (Below.trod laidOut (by kernel_rfl) (of_decide_eq_true (by kernel_rfl)) k0 bel lt0) (trodAll_cons_mk (Below.trod laidOut (by kernel_rfl) (of_decide_eq_true (by kernel_rfl)) k1 bel lt1) (trodAll_cons_mk (Below.trod laidOut (by kernel_rfl) (of_decide_eq_true (by kernel_rfl)) k2 bel lt2) trodAll_mk0))), rfl, bel.frame _, fun h => by cases h⟩

theorem over : Rows.signedLawsRow.holds Try.pinned (OpenSpec.ofChange Rows.signedLawsSpec) :=
  OpenClaim.holds_of_wide 6 Try.f6 rfl rfl rfl rfl rfl rfl rfl ⟨rfl, rfl, rfl, rfl, rfl⟩ rfl rfl rfl rfl rfl (by kernel_rfl) Try.func6 (by kernel_rfl)
    (of_decide_eq_true (by kernel_rfl)) (by unfold Func.isWrapper; first | (rw [if_pos (by decide +kernel)]; kernel_rfl) | (rw [if_neg (by decide +kernel)]; exact ⟨rfl, rfl⟩))
    (fun os started H enc _ => lifted os started H enc)

/-- THE STATEMENT -/
theorem proved : Rows.SignedLawsSaid := over
#print axioms proved
end Go.Proofs.Ytmnankcllblgjaa.signedLaws
