/-
  For all numbers a, b and d of layer 3: the law SignedGcd returns true (where each may be, and has at most 30 digits: the greatest common divisor of a and b divides both, and each number d that divides both divides it) and leaves them as they were. No condition.
-/
import Derived.Test.YtmnankcllblgjaaRows
import Derived.WalkKit
import Derived.ProofKit
import Derived.OpenShut
import Derived.ShutString
import Derived.ChangeOld
import Derived.Below
import Derived.Lib.SmallJoins
import Derived.Test.YtmnankcllblgjaaLw
import Derived.Test.YtmnankcllblgjaaWd
import Derived.Test.YtmnankcllblgjaaSc
import Derived.Test.YtmnankcllblgjaaLx
import Derived.Test.YtmnankcllblgjaaRg
import Derived.Deep.RegionHeld3
import Derived.Deep.DeepCutAuto
namespace Go.Proofs.Ytmnankcllblgjaa.signedGcd
open Go.Joins
open Go.ChangeShapes Go.WideShapes Go.ChangeAt Go.RowKit
open Go.ChangeMaps (open_string shut_string)
open Go.Proofs.Ytmnankcllblgjaa.Dig
open Go.Proofs.Ytmnankcllblgjaa.Ref03 (sv RetZ gcdZ srightB)
set_option linter.unusedVariables false
set_option linter.unusedSimpArgs false

theorem cells24 : Try.prog.cellsOf 24 = 2 := by kernel_rfl
theorem own : ownKnob Try.prog.godebug = none := by kernel_rfl
theorem laidOut : laidOutB Try.prog = true := by kernel_rfl

/-- WHAT THE WALK IS TOLD OF A SLICE OF INTEGERS THAT CAME IN: it is nil; or it leads to a row of 'cap' cells, the numbers 'zs' (the first 'len' are its elements, the rest its spare room), each fitting its kind. -/
def IsRow (k : IntKind) (w : World) (a : Option Addr) (len cap : Nat) (zs : List Int) : Prop :=
  (a = none ∧ len = 0 ∧ cap = 0 ∧ zs = []) ∨
  ∃ x, a = some x ∧ len ≤ cap ∧ cap ≤ maxLen ∧ zs.length = cap ∧ (∀ i, i < zs.length → w.cell? (x.add i) = some (.int k (zs.getD i 0))) ∧ ∀ n ∈ zs, (Lit.int k n).wf = true

theorem right_three' (A0 A1 A2 : Option Addr) (c0 c1 c2 : Nat) (n0 n1 n2 : Bool) (d0 d1 d2 : List Nat) (w : World) (h0 : Row w (.slice A0 d0.length c0) d0) (h1 : Row w (.slice A1 d1.length c1) d1) (h2 : Row w (.slice A2 d2.length c2) d2) (l0 : d0.length ≤ 1000) (l1 : d1.length ≤ 1000) (l2 : d2.length ≤ 1000) :
    Calls Try.prog 32 #[.slice (some ⟨w.heap.size, 0, none⟩) 3 3] (w.alloc (.cells #[.bool n0, .slice A0 d0.length c0, .bool n1, .slice A1 d1.length c1, .bool n2, .slice A2 d2.length c2] 24)) fun e w' => e = .returned (.bool (srightB n0 d0 && (srightB n1 d1 && srightB n2 d2))) ∧ Since w w' :=
  Law03.right_three w _ ⟨n0, A0, c0, d0⟩ ⟨n1, A1, c1, d1⟩ ⟨n2, A2, c2, d2⟩ h0 h1 h2 (by show d0.length ≤ 10000; omega) (by show d1.length ≤ 10000; omega) (by show d2.length ≤ 10000; omega)
theorem gcd_at (A0 A1 : Option Addr) (c0 c1 : Nat) (na nb : Bool) (xs ys : List Nat) (w : World) (hx : Row w (.slice A0 xs.length c0) xs) (hy : Row w (.slice A1 ys.length c1) ys) (lx : xs.length ≤ 1000) (ly : ys.length ≤ 1000) {n1 : Bool} {s1 : List Nat} {e1 : Int} (h : gcdZ na xs nb ys = ((n1, s1), e1)) :
    Calls Try.prog 30 #[sv na (.slice A0 xs.length c0), sv nb (.slice A1 ys.length c1)] w fun e w' => ∃ A c, e = .returned (.tuple #[sv n1 (.slice A s1.length c), .int .i64 e1]) ∧ Row w' (.slice A s1.length c) s1 ∧ Since w w' := by
  have k := Sg03.gcd_any A0 A1 c0 c1 na nb xs ys w hx hy lx ly
  rwa [h] at k
theorem gcd_right (na : Bool) (xs : List Nat) (nb : Bool) (ys : List Nat) (dx : IsDig xs) (dy : IsDig ys) (r1 : srightB na xs = true) (r2 : srightB nb ys = true) : srightB false (digs (Nat.gcd (num xs) (num ys))) = true := by
  have h : rightB (digs (Nat.gcd (num xs) (num ys))) = true := by
    refine right_of ?_ (norm_digs _)
    by_cases h0 : num xs = 0
    · rw [h0, Nat.gcd_zero_left]; exact Nat.le_trans (digs_len_num dy) (right_norm (Ref03.sright_right r2)).1
    · exact Nat.le_trans (digs_len_mono (Nat.gcd_le_left _ (by omega))) (Nat.le_trans (digs_len_num dx) (right_norm (Ref03.sright_right r1)).1)
  simp [srightB, h]

set_option maxRecDepth 100000 in
set_option maxHeartbeats 4000000 in
theorem walk (b0 : Bool) (a0 : Option Addr) (len0 cap0 : Nat) (z0 : List Int) (b1 : Bool) (a1 : Option Addr) (len1 cap1 : Nat) (z1 : List Int) (b2 : Bool) (a2 : Option Addr) (len2 cap2 : Nat) (z2 : List Int) (w : World) (w0 : IsRow .u32 w a0 len0 cap0 z0) (w1 : IsRow .u32 w a1 len1 cap1 z1) (w2 : IsRow .u32 w a2 len2 cap2 z2) :
    Calls Try.prog 7 #[.agg #[.bool b0, .slice a0 len0 cap0], .agg #[.bool b1, .slice a1 len1 cap1], .agg #[.bool b2, .slice a2 len2 cap2]] w fun e w' => e = .returned (.bool true) ∧ Since w w' := by
  obtain ⟨d0, hl0, hr0⟩ := row_in w0
  have R0 := Lib.hid hr0
  obtain ⟨d1, hl1, hr1⟩ := row_in w1
  have R1 := Lib.hid hr1
  obtain ⟨d2, hl2, hr2⟩ := row_in w2
  have R2 := Lib.hid hr2
  clear w0 hr0 w1 hr1 w2 hr2
  subst hl0 hl1 hl2
  obtain ⟨W0, hW0⟩ : ∃ W0, W0 = ((w.alloc (.cells #[.bool b0, .slice a0 d0.length cap0] 24)).alloc (.cells #[.bool b1, .slice a1 d1.length cap1] 24)).alloc (.cells #[.bool b2, .slice a2 d2.length cap2] 24) := ⟨_, rfl⟩
  have HW := Lib.hid hW0
  have hS0 : Since w W0 := by rw [hW0]; exact (((Since.refl w).alloc _).alloc _).alloc _
  have hold : Hid (∀ W : World, Since W0 W → (W.cell? ⟨w.heap.size, 0, none⟩ = some (.bool b0) ∧ W.cell? ⟨w.heap.size, 1, none⟩ = some (.slice a0 d0.length cap0) ∧ W.cell? ⟨w.heap.size + 1, 0, none⟩ = some (.bool b1) ∧ W.cell? ⟨w.heap.size + 1, 1, none⟩ = some (.slice a1 d1.length cap1) ∧ W.cell? ⟨w.heap.size + 1 + 1, 0, none⟩ = some (.bool b2) ∧ W.cell? ⟨w.heap.size + 1 + 1, 1, none⟩ = some (.slice a2 d2.length cap2)) ∧ Since w W) := fun W h => ⟨Law03.hold3of (hW0 ▸ h), hS0.trans h⟩
  clear hW0
  have hK := Since.refl W0
  by_cases g : (decide (d0.length ≤ 30) && (decide (d1.length ≤ 30) && decide (d2.length ≤ 30))) = true
  rotate_left
  · have HF := Lib.hid (show (decide (d0.length ≤ 30) && (decide (d1.length ≤ 30) && decide (d2.length ≤ 30))) = false by simpa using g)
    clear g
    go_enter Try.func7, Try.ntmps7
    go_wp2_with fail
    rw [← HW.out]
    go_wp2_with (first
      | (go_at_call 9; (with_reducible refine (Alive03.alive _).mono ?_); rintro e v0 ⟨rfl, h⟩; have hK := hK.trans h; obtain ⟨⟨k0, k1, k2, k3, k4, k5⟩, _⟩ := hold.out _ hK)
      | (go_at_call 10; (with_reducible refine (Law03.few_three _ _ ⟨b0, a0, cap0, d0⟩ ⟨b1, a1, cap1, d1⟩ ⟨b2, a2, cap2, d2⟩).mono ?_); rw [HF.out]; rintro e vf ⟨rfl, h⟩; have hK := hK.trans h; obtain ⟨⟨k0, k1, k2, k3, k4, k5⟩, _⟩ := hold.out _ hK))
    go_ret
    exact ⟨rfl, hS0.trans hK⟩
  have HF := Lib.hid g
  have L0 : d0.length ≤ 30 := by simp at g; omega
  have L1 : d1.length ≤ 30 := by simp at g; omega
  have L2 : d2.length ≤ 30 := by simp at g; omega
  have M0 := Lib.hid (show d0.length ≤ 1000 by omega)
  have M1 := Lib.hid (show d1.length ≤ 1000 by omega)
  have M2 := Lib.hid (show d2.length ≤ 1000 by omega)
  clear g L0 L1 L2
  by_cases gr : (srightB b0 d0 && (srightB b1 d1 && srightB b2 d2)) = true
  rotate_left
  · have HR := Lib.hid (show (srightB b0 d0 && (srightB b1 d1 && srightB b2 d2)) = false by simpa using gr)
    clear gr
    go_enter Try.func7, Try.ntmps7
    go_wp2_with fail
    rw [← HW.out]
    go_wp2_with (first
      | (go_at_call 9; (with_reducible refine (Alive03.alive _).mono ?_); rintro e v0 ⟨rfl, h⟩; have hK := hK.trans h; obtain ⟨⟨k0, k1, k2, k3, k4, k5⟩, _⟩ := hold.out _ hK)
      | (go_at_call 10; (with_reducible refine (Law03.few_three _ _ ⟨b0, a0, cap0, d0⟩ ⟨b1, a1, cap1, d1⟩ ⟨b2, a2, cap2, d2⟩).mono ?_); rw [HF.out]; rintro e vf ⟨rfl, h⟩; have hK := hK.trans h; obtain ⟨⟨k0, k1, k2, k3, k4, k5⟩, _⟩ := hold.out _ hK)
      | (go_at_call 32; (with_reducible refine (right_three' a0 a1 a2 cap0 cap1 cap2 b0 b1 b2 d0 d1 d2 _ (R0.out.since (hS0.trans hK)) (R1.out.since (hS0.trans hK)) (R2.out.since (hS0.trans hK)) M0.out M1.out M2.out).mono ?_); rw [HR.out]; rintro e vr ⟨rfl, h⟩; have hK := hK.trans h; obtain ⟨⟨k0, k1, k2, k3, k4, k5⟩, _⟩ := hold.out _ hK))
    go_ret
    exact ⟨rfl, hS0.trans hK⟩
  have HR := Lib.hid gr
  have RT := Lib.hid (show srightB b0 d0 = true ∧ srightB b1 d1 = true ∧ srightB b2 d2 = true by simpa using gr)
  clear gr
  obtain ⟨s1, hs1⟩ : ∃ s, s = digs (Nat.gcd (num d0) (num d1)) := ⟨_, rfl⟩
  have E1 := Lib.hid (show gcdZ b0 d0 b1 d1 = ((false, s1), 0) by rw [hs1]; exact if_pos ⟨RT.out.1, RT.out.2.1⟩)
  have LS := Lib.hid (show s1.length ≤ 1000 by have h := Ref03.gcdZ_len b0 d0 b1 d1 R0.out.dig R1.out.dig M0.out M1.out; rw [E1.out] at h; exact h)
  have DS := Lib.hid (show IsDig s1 by rw [hs1]; exact isDig_digs _)
  have RS := Lib.hid (show srightB false s1 = true by have h := gcd_right b0 d0 b1 d1 R0.out.dig R1.out.dig RT.out.1 RT.out.2.1; rwa [← hs1] at h)
  have NS := Lib.hid (show num s1 = Nat.gcd (num d0) (num d1) by rw [hs1, num_digs])
  clear hs1
  go_enter Try.func7, Try.ntmps7
  go_wp2_with fail
  rw [← HW.out]
  go_upto_region 5 with (first
      | (go_at_call 9; (with_reducible refine (Alive03.alive _).mono ?_); rintro e v0 ⟨rfl, h⟩; have hK := hK.trans h; obtain ⟨⟨k0, k1, k2, k3, k4, k5⟩, _⟩ := hold.out _ hK)
      | (go_at_call 10; (with_reducible refine (Law03.few_three _ _ ⟨b0, a0, cap0, d0⟩ ⟨b1, a1, cap1, d1⟩ ⟨b2, a2, cap2, d2⟩).mono ?_); rw [HF.out]; rintro e vf ⟨rfl, h⟩; have hK := hK.trans h; obtain ⟨⟨k0, k1, k2, k3, k4, k5⟩, _⟩ := hold.out _ hK)
      | (go_at_call 32; (with_reducible refine (right_three' a0 a1 a2 cap0 cap1 cap2 b0 b1 b2 d0 d1 d2 _ (R0.out.since (hS0.trans hK)) (R1.out.since (hS0.trans hK)) (R2.out.since (hS0.trans hK)) M0.out M1.out M2.out).mono ?_); rw [HR.out]; rintro e vf ⟨rfl, h⟩; have hZ := hK.trans h; have hK := hZ; obtain ⟨⟨k0, k1, k2, k3, k4, k5⟩, _⟩ := hold.out _ hK))
  clear hK h
  go_cut [7, 8] (fun p7 p8 W => ∃ (c0 : Nat) (A1 : Option Addr) (q1 : Nat), p7 = .pointer (some ⟨c0, 0, none⟩) ∧ p8 = .int .i64 0 ∧ Since vf W ∧ Row W (.slice A1 s1.length q1) s1 ∧ (W.cell? ⟨c0, 0, none⟩ = some (.bool false) ∧ W.cell? ⟨c0, 1, none⟩ = some (.slice A1 s1.length q1)))
  case first =>
    have hSall : Hid (∀ W : World, Since vf W → W.cell? ⟨w.heap.size, 0, none⟩ = some (.bool b0) ∧ W.cell? ⟨w.heap.size, 1, none⟩ = some (.slice a0 d0.length cap0) ∧ W.cell? ⟨w.heap.size + 1, 0, none⟩ = some (.bool b1) ∧ W.cell? ⟨w.heap.size + 1, 1, none⟩ = some (.slice a1 d1.length cap1) ∧ W.cell? ⟨w.heap.size + 1 + 1, 0, none⟩ = some (.bool b2) ∧ W.cell? ⟨w.heap.size + 1 + 1, 1, none⟩ = some (.slice a2 d2.length cap2)) := fun W h => (hold.out _ (hZ.trans h)).1
    have hr0 : Since vf vf.drew := Since.drew (Since.refl _)
    refine wp_region_noPanic ?_
    refine Reg.wp_region_G (S := fun W => W.cell? ⟨w.heap.size, 0, none⟩ = some (.bool b0) ∧ W.cell? ⟨w.heap.size, 1, none⟩ = some (.slice a0 d0.length cap0) ∧ W.cell? ⟨w.heap.size + 1, 0, none⟩ = some (.bool b1) ∧ W.cell? ⟨w.heap.size + 1, 1, none⟩ = some (.slice a1 d1.length cap1) ∧ W.cell? ⟨w.heap.size + 1 + 1, 0, none⟩ = some (.bool b2) ∧ W.cell? ⟨w.heap.size + 1 + 1, 1, none⟩ = some (.slice a2 d2.length cap2)) (fun j => [4, 5, 6, 7, 9, 10].contains j) (by kernel_rfl) ?_ ?_
    · exact hSall.out _ (hr0)
    refine' Reg.wpG_take (i := 0) (oi := { dst := some 27, op := Op.load 24 (Operand.tmp 3), type := 24, pos := "law.go:181", after := #[], guard := none }) (v := _) [1, 3, 4, 5, 6, 7, 9, 10] [4, 5, 6, 7, 9, 10] rfl rfl (by kernel_rfl) (by kernel_rfl) (by kernel_rfl) (by kernel_rfl) (by kernel_rfl) (by kernel_rfl) (by kernel_rfl) (fun _ _ _ h => h) (Or.inl ⟨by rfl, Or.inl ?hy1⟩) ?rest1
    case hy1 => (intro w' kk ss; (try dsimp only at ss); go_simp; first | done | with_reducible rfl)
    try simp only [Act.put, List.setIfInBounds_toArray, List.set_cons_zero, List.set_cons_succ]
    refine Reg.wpG_take (i := 1) (oi := { dst := some 28, op := Op.call { callee := Callee.value (Operand.func 12), args := #[Operand.tmp 27], argTypes := #[24] }, type := 30, pos := "law.go:181", after := #[{ on := 0, ground := Ground.data }], guard := none }) (v := sv b0 (.slice a0 d0.length cap0)) [3, 4, 5, 6, 7, 9, 10] [4, 5, 6, 7, 9, 10] rfl rfl (by kernel_rfl) (by kernel_rfl) (by kernel_rfl) (by kernel_rfl) (by kernel_rfl) (by kernel_rfl) (by kernel_rfl) (fun _ _ _ h => h) (Or.inl ⟨by rfl, Or.inr ⟨12, #[sv b0 (.slice a0 d0.length cap0)], fun w' kk ss => ⟨?_, ?_⟩⟩⟩) ?_
    · (try dsimp only at ss); go_simp
    · exact (Law03.theirs_any a0 d0.length cap0 b0 w').mono fun e w'' h => ⟨h.1, h.2, hSall.out _ ((hr0.trans (kk.trans h.2)))⟩
    try simp only [Act.put, List.setIfInBounds_toArray, List.set_cons_zero, List.set_cons_succ]
    refine' Reg.wpG_take (i := 2) (oi := { dst := some 29, op := Op.load 24 (Operand.tmp 4), type := 24, pos := "law.go:181", after := #[], guard := none }) (v := _) [3, 4, 5, 6, 7, 9, 10] [4, 5, 6, 7, 9, 10] rfl rfl (by kernel_rfl) (by kernel_rfl) (by kernel_rfl) (by kernel_rfl) (by kernel_rfl) (by kernel_rfl) (by kernel_rfl) (fun _ _ _ h => h) (Or.inl ⟨by rfl, Or.inl ?hy2⟩) ?rest2
    case hy2 => (intro w' kk ss; (try dsimp only at ss); go_simp; first | done | with_reducible rfl)
    try simp only [Act.put, List.setIfInBounds_toArray, List.set_cons_zero, List.set_cons_succ]
    refine Reg.wpG_take (i := 3) (oi := { dst := some 30, op := Op.call { callee := Callee.value (Operand.func 12), args := #[Operand.tmp 29], argTypes := #[24] }, type := 30, pos := "law.go:181", after := #[{ on := 2, ground := Ground.data }, { on := 1, ground := Ground.chain }], guard := none }) (v := sv b1 (.slice a1 d1.length cap1)) [4, 5, 6, 7, 9, 10] [4, 5, 6, 7, 9, 10] rfl rfl (by kernel_rfl) (by kernel_rfl) (by kernel_rfl) (by kernel_rfl) (by kernel_rfl) (by kernel_rfl) (by kernel_rfl) (fun _ _ _ h => h) (Or.inl ⟨by rfl, Or.inr ⟨12, #[sv b1 (.slice a1 d1.length cap1)], fun w' kk ss => ⟨?_, ?_⟩⟩⟩) ?_
    · (try dsimp only at ss); go_simp
    · exact (Law03.theirs_any a1 d1.length cap1 b1 w').mono fun e w'' h => ⟨h.1, h.2, hSall.out _ ((hr0.trans (kk.trans h.2)))⟩
    try simp only [Act.put, List.setIfInBounds_toArray, List.set_cons_zero, List.set_cons_succ]
    refine Reg.wpG_ready (rs := [4, 8]) (by kernel_rfl) (by simp) (fun wq1 k1' sq1 => ?_)
    have hr0 := hr0.trans k1'
    refine Reg.AllG.last (o := { dst := some 31, op := Op.call { callee := Callee.value (Operand.func 30), args := #[Operand.tmp 28, Operand.tmp 30], argTypes := #[30, 30] }, type := 45, pos := "law.go:181", after := #[{ on := 1, ground := Ground.data }, { on := 3, ground := Ground.data }, { on := 3, ground := Ground.chain }], guard := none }) rfl (by rfl) (fun K hK => ?_) (Reg.AllG.first (o := { dst := some 7, op := Op.alloc 30, type := 0, pos := "law.go:181", after := #[], guard := none }) rfl (by rfl) (fun K hK => ?_) Reg.AllG.nil)
    · go_simp
      (with_reducible refine (gcd_at a0 a1 cap0 cap1 b0 b1 d0 d1 wq1 (R0.out.since (hS0.trans (hZ.trans hr0))) (R1.out.since (hS0.trans (hZ.trans hr0))) M0.out M1.out E1.out).mono ?_)
      rintro e y ⟨A1, q1, rfl, r1, hx⟩
      have hr0 := hr0.trans hx
      have hby := hr0.size
      refine hK.out _ _ ?_ (fun hHeld => ?_)
      · exact hSall.out _ (hr0)
      clear hK K
      try simp only [Act.put, List.setIfInBounds_toArray, List.set_cons_zero, List.set_cons_succ]
      refine' wpAnyH_take (i := 5) (oi := { dst := some 26, op := Op.move (Operand.tmp 31), type := 45, pos := "law.go:181", after := #[{ on := 4, ground := Ground.data }], guard := none }) (v := _) rfl (by kernel_rfl) (by kernel_rfl) (by kernel_rfl) (fun _ _ _ h => h) (Or.inl ⟨by rfl, ?hy3⟩) (by assumption) ?rest3
      case hy3 => (intro w' ss; (try dsimp only at ss); go_simp; first | done | with_reducible rfl)
      try simp only [Act.put, List.setIfInBounds_toArray, List.set_cons_zero, List.set_cons_succ]
      refine' wpAnyH_take (i := 6) (oi := { dst := some 32, op := Op.extract (Operand.tmp 26) 0, type := 30, pos := "law.go:181", after := #[{ on := 5, ground := Ground.data }], guard := none }) (v := _) rfl (by kernel_rfl) (by kernel_rfl) (by kernel_rfl) (fun _ _ _ h => h) (Or.inl ⟨by rfl, ?hy4⟩) (by assumption) ?rest4
      case hy4 => (intro w' ss; (try dsimp only at ss); go_simp; first | done | with_reducible rfl)
      try simp only [Act.put, List.setIfInBounds_toArray, List.set_cons_zero, List.set_cons_succ]
      refine' wpAnyH_take (i := 7) (oi := { dst := some 33, op := Op.extract (Operand.tmp 26) 1, type := 27, pos := "law.go:181", after := #[{ on := 5, ground := Ground.data }, { on := 9, ground := Ground.gcOnly Departure.lateStores }], guard := none }) (v := _) rfl (by kernel_rfl) (by kernel_rfl) (by kernel_rfl) (fun _ _ _ h => h) (Or.inl ⟨by rfl, ?hy5⟩) (by assumption) ?rest5
      case hy5 => (intro w' ss; (try dsimp only at ss); go_simp; first | done | with_reducible rfl)
      try simp only [Act.put, List.setIfInBounds_toArray, List.set_cons_zero, List.set_cons_succ]
      refine wpAnyH_ready (rs := [8]) (by kernel_rfl) (by simp) ?_
      refine AllReadyH.cons (o := { dst := some 7, op := Op.alloc 30, type := 0, pos := "law.go:181", after := #[], guard := none }) rfl (fun K hK => ?_) AllReadyH.nil
      · go_simp
        refine hK.out _ _ ?_ (fun hHeld => ?_)
        · refine hSall.out _ ?_; repeat (first | assumption | exact Since.refl _ | refine Since.alloc ?_ _ | (refine Since.set ?_ ?_ _; rotate_left; first | exact Nat.le_refl _ | assumption | exact hby))
        clear hK K
        try simp only [Act.put, List.setIfInBounds_toArray, List.set_cons_zero, List.set_cons_succ]
        refine wpAnyH_ready (rs := [9]) (by kernel_rfl) (by simp) ?_
        refine AllReadyH.cons (o := { dst := none, op := Op.store 30 (Operand.tmp 7) (Operand.tmp 32), type := 0, pos := "law.go:181", after := #[{ on := 8, ground := Ground.data }, { on := 6, ground := Ground.data }, { on := 4, ground := Ground.chain }, { on := 0, ground := Ground.phase }, { on := 1, ground := Ground.phase }, { on := 2, ground := Ground.phase }, { on := 3, ground := Ground.phase }, { on := 4, ground := Ground.phase }, { on := 5, ground := Ground.phase }, { on := 6, ground := Ground.phase }, { on := 7, ground := Ground.textOnly Departure.lateStores }, { on := 8, ground := Ground.phase }], guard := none }) rfl (fun K hK => ?_) AllReadyH.nil
        · go_simp
          refine hK.out _ _ ?_ (fun hHeld => ?_)
          · refine hSall.out _ ?_; repeat (first | assumption | exact Since.refl _ | refine Since.alloc ?_ _ | (refine Since.set ?_ ?_ _; rotate_left; first | exact Nat.le_refl _ | assumption | exact hby))
          clear hK K
          try simp only [Act.put, List.setIfInBounds_toArray, List.set_cons_zero, List.set_cons_succ]
          refine' wpAnyH_take (i := 10) (oi := { dst := some 8, op := Op.assign (Operand.tmp 33), type := 27, pos := "law.go:181", after := #[{ on := 7, ground := Ground.data }, { on := 9, ground := Ground.chain }, { on := 0, ground := Ground.phase }, { on := 1, ground := Ground.phase }, { on := 2, ground := Ground.phase }, { on := 3, ground := Ground.phase }, { on := 4, ground := Ground.phase }, { on := 5, ground := Ground.phase }, { on := 6, ground := Ground.phase }, { on := 7, ground := Ground.phase }, { on := 8, ground := Ground.phase }, { on := 9, ground := Ground.phase }], guard := none }) (v := _) rfl (by kernel_rfl) (by kernel_rfl) (by kernel_rfl) (fun _ _ _ h => h) (Or.inl ⟨by rfl, ?hy6⟩) (by assumption) ?rest6
          case hy6 => (intro w' ss; (try dsimp only at ss); go_simp; first | done | with_reducible rfl)
          try simp only [Act.put, List.setIfInBounds_toArray, List.set_cons_zero, List.set_cons_succ]
          refine wpAnyH_done (by kernel_rfl) ?_ _
          refine NoPanic.normal ?_
          go_wp2_with fail
          go_meet
          refine ⟨_, A1, q1, rfl, rfl, ?_, ?_, ⟨?_, ?_⟩⟩
          · repeat (first | assumption | exact Since.refl _ | refine Since.alloc ?_ _ | (refine Since.set ?_ ?_ _; rotate_left; first | exact Nat.le_refl _ | assumption | exact hby))
          · repeat (first | exact r1 | refine Row.since ?_ (since_alloc _ _) | (refine Law03.row_put0 ?_ ?_; rotate_left; (focus (go_simp; done))) | (refine Law03.row_put1 ?_ ?_; rotate_left; (focus (go_simp; done))))
          · go_simp
          · go_simp
    · go_simp
      refine hK.out _ _ ?_ (since_alloc _ _) ?_
      · exact hSall.out _ ((hr0.trans (since_alloc _ _)))
      clear hK K
      try simp only [Act.put, List.setIfInBounds_toArray, List.set_cons_zero, List.set_cons_succ]
      have Z8 := Law03.Zero.fresh wq1 30
      have hb8 := hr0.size
      have hr0 := hr0.trans (since_alloc wq1 (.cells #[.bool false, .slice none 0 0] 30))
      refine Reg.wpG_ready (rs := [4]) (by kernel_rfl) (by simp) (fun wq2 k2' sq2 => ?_)
      have hr0 := hr0.trans k2'
      have Z8 := Z8.since k2'
      refine Reg.AllG.last (o := { dst := some 31, op := Op.call { callee := Callee.value (Operand.func 30), args := #[Operand.tmp 28, Operand.tmp 30], argTypes := #[30, 30] }, type := 45, pos := "law.go:181", after := #[{ on := 1, ground := Ground.data }, { on := 3, ground := Ground.data }, { on := 3, ground := Ground.chain }], guard := none }) rfl (by rfl) (fun K hK => ?_) Reg.AllG.nil
      · go_simp
        (with_reducible refine (gcd_at a0 a1 cap0 cap1 b0 b1 d0 d1 wq2 (R0.out.since (hS0.trans (hZ.trans hr0))) (R1.out.since (hS0.trans (hZ.trans hr0))) M0.out M1.out E1.out).mono ?_)
        rintro e y ⟨A1, q1, rfl, r1, hx⟩
        have hr0 := hr0.trans hx
        have hby := hr0.size
        have Z8 := Z8.since hx
        refine hK.out _ _ ?_ (fun hHeld => ?_)
        · exact hSall.out _ (hr0)
        clear hK K
        try simp only [Act.put, List.setIfInBounds_toArray, List.set_cons_zero, List.set_cons_succ]
        have u8 : wq1.heap.size ≠ y.heap.size := Nat.ne_of_lt Z8.lt
        have u8' : y.heap.size ≠ wq1.heap.size := Ne.symm u8
        refine' wpAnyH_take (i := 5) (oi := { dst := some 26, op := Op.move (Operand.tmp 31), type := 45, pos := "law.go:181", after := #[{ on := 4, ground := Ground.data }], guard := none }) (v := _) rfl (by kernel_rfl) (by kernel_rfl) (by kernel_rfl) (fun _ _ _ h => h) (Or.inl ⟨by rfl, ?hy7⟩) (by assumption) ?rest7
        case hy7 => (intro w' ss; (try dsimp only at ss); go_simp; first | done | with_reducible rfl)
        try simp only [Act.put, List.setIfInBounds_toArray, List.set_cons_zero, List.set_cons_succ]
        refine' wpAnyH_take (i := 6) (oi := { dst := some 32, op := Op.extract (Operand.tmp 26) 0, type := 30, pos := "law.go:181", after := #[{ on := 5, ground := Ground.data }], guard := none }) (v := _) rfl (by kernel_rfl) (by kernel_rfl) (by kernel_rfl) (fun _ _ _ h => h) (Or.inl ⟨by rfl, ?hy8⟩) (by assumption) ?rest8
        case hy8 => (intro w' ss; (try dsimp only at ss); go_simp; first | done | with_reducible rfl)
        try simp only [Act.put, List.setIfInBounds_toArray, List.set_cons_zero, List.set_cons_succ]
        refine' wpAnyH_take (i := 7) (oi := { dst := some 33, op := Op.extract (Operand.tmp 26) 1, type := 27, pos := "law.go:181", after := #[{ on := 5, ground := Ground.data }, { on := 9, ground := Ground.gcOnly Departure.lateStores }], guard := none }) (v := _) rfl (by kernel_rfl) (by kernel_rfl) (by kernel_rfl) (fun _ _ _ h => h) (Or.inl ⟨by rfl, ?hy9⟩) (by assumption) ?rest9
        case hy9 => (intro w' ss; (try dsimp only at ss); go_simp; first | done | with_reducible rfl)
        try simp only [Act.put, List.setIfInBounds_toArray, List.set_cons_zero, List.set_cons_succ]
        refine wpAnyH_ready (rs := [9]) (by kernel_rfl) (by simp) ?_
        refine AllReadyH.cons (o := { dst := none, op := Op.store 30 (Operand.tmp 7) (Operand.tmp 32), type := 0, pos := "law.go:181", after := #[{ on := 8, ground := Ground.data }, { on := 6, ground := Ground.data }, { on := 4, ground := Ground.chain }, { on := 0, ground := Ground.phase }, { on := 1, ground := Ground.phase }, { on := 2, ground := Ground.phase }, { on := 3, ground := Ground.phase }, { on := 4, ground := Ground.phase }, { on := 5, ground := Ground.phase }, { on := 6, ground := Ground.phase }, { on := 7, ground := Ground.textOnly Departure.lateStores }, { on := 8, ground := Ground.phase }], guard := none }) rfl (fun K hK => ?_) AllReadyH.nil
        · obtain ⟨z8a, z8b, z8c, z8d⟩ := Z8
          go_simp
          refine hK.out _ _ ?_ (fun hHeld => ?_)
          · refine hSall.out _ ?_; repeat (first | assumption | exact Since.refl _ | refine Since.alloc ?_ _ | (refine Since.set ?_ ?_ _; rotate_left; first | exact Nat.le_refl _ | assumption | exact hb8 | exact hby))
          clear hK K
          try simp only [Act.put, List.setIfInBounds_toArray, List.set_cons_zero, List.set_cons_succ]
          refine' wpAnyH_take (i := 10) (oi := { dst := some 8, op := Op.assign (Operand.tmp 33), type := 27, pos := "law.go:181", after := #[{ on := 7, ground := Ground.data }, { on := 9, ground := Ground.chain }, { on := 0, ground := Ground.phase }, { on := 1, ground := Ground.phase }, { on := 2, ground := Ground.phase }, { on := 3, ground := Ground.phase }, { on := 4, ground := Ground.phase }, { on := 5, ground := Ground.phase }, { on := 6, ground := Ground.phase }, { on := 7, ground := Ground.phase }, { on := 8, ground := Ground.phase }, { on := 9, ground := Ground.phase }], guard := none }) (v := _) rfl (by kernel_rfl) (by kernel_rfl) (by kernel_rfl) (fun _ _ _ h => h) (Or.inl ⟨by rfl, ?hy10⟩) (by assumption) ?rest10
          case hy10 => (intro w' ss; (try dsimp only at ss); go_simp; first | done | with_reducible rfl)
          try simp only [Act.put, List.setIfInBounds_toArray, List.set_cons_zero, List.set_cons_succ]
          refine wpAnyH_done (by kernel_rfl) ?_ _
          refine NoPanic.normal ?_
          go_wp2_with fail
          go_meet
          refine ⟨_, A1, q1, rfl, rfl, ?_, ?_, ⟨?_, ?_⟩⟩
          · repeat (first | assumption | exact Since.refl _ | refine Since.alloc ?_ _ | (refine Since.set ?_ ?_ _; rotate_left; first | exact Nat.le_refl _ | assumption | exact hb8 | exact hby))
          · repeat (first | exact r1 | refine Row.since ?_ (since_alloc _ _) | (refine Law03.row_put0 ?_ ?_; rotate_left; (focus (go_simp; done))) | (refine Law03.row_put1 ?_ ?_; rotate_left; (focus (go_simp; done))))
          · go_simp
          · go_simp
  case rest =>
    obtain ⟨c0, A1, q1, rfl, rfl, hc, r1, g0, g1⟩ := hcut
    have hS := hZ.trans hc
    have V0 : Hid (∀ W', Since wc W' → W'.cell? ⟨c0, 0, none⟩ = some (.bool false) ∧ W'.cell? ⟨c0, 1, none⟩ = some (.slice A1 s1.length q1)) := fun W' h => ⟨Law03.stays g0 h, Law03.stays g1 h⟩
    obtain ⟨⟨k0, k1, k2, k3, k4, k5⟩, _⟩ := hold.out _ hS
    by_cases hz : s1.length = 0
    · have hz1 : ((s1.length : Int) == 0) = true := by rw [beq_iff_eq]; omega
      have hG := NS.out
      rw [List.eq_nil_of_length_eq_zero hz] at hG
      have hab := Nat.gcd_eq_zero_iff.1 (hG.symm.trans (by rfl))
      have hd0 : d0.length = 0 := by apply Decidable.byContradiction; intro h; have := num_pos (right_norm (Ref03.sright_right RT.out.1)).2 h; omega
      have hd1 : d1.length = 0 := by apply Decidable.byContradiction; intro h; have := num_pos (right_norm (Ref03.sright_right RT.out.2.1)).2 h; omega
      have hz2 : ((d0.length : Int) == 0) = true := by rw [beq_iff_eq]; omega
      have hz3 : ((d1.length : Int) == 0) = true := by rw [beq_iff_eq]; omega
      clear hG hab
      go_wp2_with fail
      go_ret
      exact ⟨rfl, hS0.trans hS⟩
    have hz1 : ((s1.length : Int) == 0) = false := by rw [beq_eq_false_iff_ne]; omega
    have DA := Lib.hid (show Law03.dividesB false s1 b0 d0 = true by rw [Law03.divides_num R0.out.dig RS.out RT.out.1 hz, NS.out]; exact decide_eq_true (Nat.gcd_dvd_left _ _))
    have DB := Lib.hid (show Law03.dividesB false s1 b1 d1 = true by rw [Law03.divides_num R1.out.dig RS.out RT.out.2.1 hz, NS.out]; exact decide_eq_true (Nat.gcd_dvd_right _ _))
    have hall : Hid (∀ W : World, Since wc W → (W.cell? ⟨w.heap.size, 0, none⟩ = some (.bool b0) ∧ W.cell? ⟨w.heap.size, 1, none⟩ = some (.slice a0 d0.length cap0) ∧ W.cell? ⟨w.heap.size + 1, 0, none⟩ = some (.bool b1) ∧ W.cell? ⟨w.heap.size + 1, 1, none⟩ = some (.slice a1 d1.length cap1) ∧ W.cell? ⟨w.heap.size + 1 + 1, 0, none⟩ = some (.bool b2) ∧ W.cell? ⟨w.heap.size + 1 + 1, 1, none⟩ = some (.slice a2 d2.length cap2)) ∧ (W.cell? ⟨c0, 0, none⟩ = some (.bool false) ∧ W.cell? ⟨c0, 1, none⟩ = some (.slice A1 s1.length q1))) := fun W h => ⟨(hold.out _ (hS.trans h)).1, V0.out _ h⟩
    have hE := Since.refl wc
    go_upto_region 11 with fail
    refine wp_region_noPanic ?_
    refine Reg.wp_region_G (S := fun W => (W.cell? ⟨w.heap.size, 0, none⟩ = some (.bool b0) ∧ W.cell? ⟨w.heap.size, 1, none⟩ = some (.slice a0 d0.length cap0) ∧ W.cell? ⟨w.heap.size + 1, 0, none⟩ = some (.bool b1) ∧ W.cell? ⟨w.heap.size + 1, 1, none⟩ = some (.slice a1 d1.length cap1) ∧ W.cell? ⟨w.heap.size + 1 + 1, 0, none⟩ = some (.bool b2) ∧ W.cell? ⟨w.heap.size + 1 + 1, 1, none⟩ = some (.slice a2 d2.length cap2)) ∧ (W.cell? ⟨c0, 0, none⟩ = some (.bool false) ∧ W.cell? ⟨c0, 1, none⟩ = some (.slice A1 s1.length q1))) (fun j => [].contains j) (by kernel_rfl) ?_ ?_
    · exact hall.out _ (Since.drew hE)
    refine' Reg.wpG_take (i := 0) (oi := { dst := some 54, op := Op.move (Operand.tmp 9), type := 56, pos := "law.go:192", after := #[], guard := none }) (v := _) [4, 5, 6, 7, 8, 9, 10, 11, 12, 13] [] rfl rfl (by kernel_rfl) (by kernel_rfl) (by kernel_rfl) (by kernel_rfl) (by kernel_rfl) (by kernel_rfl) (by kernel_rfl) (fun _ _ _ h => h) (Or.inl ⟨by rfl, Or.inl ?hy11⟩) ?rest11
    case hy11 => (intro w' kk ss; (try dsimp only at ss); go_simp; first | done | with_reducible rfl)
    try simp only [Act.put, List.setIfInBounds_toArray, List.set_cons_zero, List.set_cons_succ]
    refine' Reg.wpG_take (i := 1) (oi := { dst := some 55, op := Op.load 30 (Operand.tmp 7), type := 30, pos := "law.go:192", after := #[], guard := none }) (v := _) [4, 5, 6, 7, 8, 9, 10, 11, 12, 13] [] rfl rfl (by kernel_rfl) (by kernel_rfl) (by kernel_rfl) (by kernel_rfl) (by kernel_rfl) (by kernel_rfl) (by kernel_rfl) (fun _ _ _ h => h) (Or.inl ⟨by rfl, Or.inl ?hy12⟩) ?rest12
    case hy12 => (intro w' kk ss; (try dsimp only at ss); go_simp; first | done | with_reducible rfl)
    try simp only [Act.put, List.setIfInBounds_toArray, List.set_cons_zero, List.set_cons_succ]
    refine' Reg.wpG_take (i := 2) (oi := { dst := some 56, op := Op.load 24 (Operand.tmp 3), type := 24, pos := "law.go:192", after := #[], guard := none }) (v := _) [3, 4, 5, 6, 7, 8, 9, 10, 11, 12, 13] [] rfl rfl (by kernel_rfl) (by kernel_rfl) (by kernel_rfl) (by kernel_rfl) (by kernel_rfl) (by kernel_rfl) (by kernel_rfl) (fun _ _ _ h => h) (Or.inl ⟨by rfl, Or.inl ?hy13⟩) ?rest13
    case hy13 => (intro w' kk ss; (try dsimp only at ss); go_simp; first | done | with_reducible rfl)
    try simp only [Act.put, List.setIfInBounds_toArray, List.set_cons_zero, List.set_cons_succ]
    refine Reg.wpG_take (i := 3) (oi := { dst := some 57, op := Op.call { callee := Callee.value (Operand.func 12), args := #[Operand.tmp 56], argTypes := #[24] }, type := 30, pos := "law.go:192", after := #[{ on := 2, ground := Ground.data }], guard := none }) (v := sv b0 (.slice a0 d0.length cap0)) [4, 5, 6, 7, 8, 9, 10, 11, 12, 13] [] rfl rfl (by kernel_rfl) (by kernel_rfl) (by kernel_rfl) (by kernel_rfl) (by kernel_rfl) (by kernel_rfl) (by kernel_rfl) (fun _ _ _ h => h) (Or.inl ⟨by rfl, Or.inr ⟨12, #[sv b0 (.slice a0 d0.length cap0)], fun w' kk ss => ⟨?_, ?_⟩⟩⟩) ?_
    · (try dsimp only at ss); go_simp
    · exact (Law03.theirs_any a0 d0.length cap0 b0 w').mono fun e w'' h => ⟨h.1, h.2, hall.out _ (hE.trans ((Since.drew (Since.refl _)).trans (kk.trans h.2)))⟩
    try simp only [Act.put, List.setIfInBounds_toArray, List.set_cons_zero, List.set_cons_succ]
    refine Reg.wpG_take (i := 4) (oi := { dst := some 58, op := Op.call { callee := Callee.value (Operand.tmp 54), args := #[Operand.tmp 55, Operand.tmp 57], argTypes := #[30, 30] }, type := 4, pos := "law.go:192", after := #[{ on := 0, ground := Ground.data }, { on := 1, ground := Ground.data }, { on := 3, ground := Ground.data }, { on := 3, ground := Ground.chain }], guard := none }) (v := .bool true) [5, 6, 7, 8, 9, 10, 11, 12, 13] [] rfl rfl (by kernel_rfl) (by kernel_rfl) (by kernel_rfl) (by kernel_rfl) (by kernel_rfl) (by kernel_rfl) (by kernel_rfl) (fun _ _ _ h => h) (Or.inl ⟨by rfl, Or.inr ⟨36, #[sv false (.slice A1 s1.length q1), sv b0 (.slice a0 d0.length cap0)], fun w' kk ss => ⟨?_, ?_⟩⟩⟩) ?_
    · (try dsimp only at ss); go_simp
    · exact (Law03.divides_at A1 a0 q1 cap0 false b0 s1 d0 w' (r1.since (hE.trans ((Since.drew (Since.refl _)).trans kk))) (R0.out.since (hS0.trans (hS.trans (hE.trans ((Since.drew (Since.refl _)).trans kk))))) LS.out M0.out DA.out).mono fun e w'' h => ⟨h.1, h.2, hall.out _ (hE.trans ((Since.drew (Since.refl _)).trans (kk.trans h.2)))⟩
    try simp only [Act.put, List.setIfInBounds_toArray, List.set_cons_zero, List.set_cons_succ]
    refine' Reg.wpG_take (i := 5) (oi := { dst := some 59, op := Op.unOp UnOp.not 4 (Operand.tmp 58), type := 4, pos := "law.go:192", after := #[{ on := 4, ground := Ground.data }], guard := none }) (v := _) [6, 7, 8, 9, 10, 11, 12, 13] [] rfl rfl (by kernel_rfl) (by kernel_rfl) (by kernel_rfl) (by kernel_rfl) (by kernel_rfl) (by kernel_rfl) (by kernel_rfl) (fun _ _ _ h => h) (Or.inl ⟨by rfl, Or.inl ?hy14⟩) ?rest14
    case hy14 => (intro w' kk ss; (try dsimp only at ss); go_simp; first | done | with_reducible rfl)
    try simp only [Act.put, List.setIfInBounds_toArray, List.set_cons_zero, List.set_cons_succ]
    refine' Reg.wpG_take (i := 6) (oi := { dst := some 60, op := Op.move (Operand.tmp 59), type := 4, pos := "law.go:192", after := #[{ on := 5, ground := Ground.data }, { on := 4, ground := Ground.chain }], guard := none }) (v := _) [7, 8, 9, 10, 11, 12, 13] [] rfl rfl (by kernel_rfl) (by kernel_rfl) (by kernel_rfl) (by kernel_rfl) (by kernel_rfl) (by kernel_rfl) (by kernel_rfl) (fun _ _ _ h => h) (Or.inl ⟨by rfl, Or.inl ?hy15⟩) ?rest15
    case hy15 => (intro w' kk ss; (try dsimp only at ss); go_simp; first | done | with_reducible rfl)
    try simp only [Act.put, List.setIfInBounds_toArray, List.set_cons_zero, List.set_cons_succ]
    refine' Reg.wpG_take (i := 7) (oi := { dst := some 61, op := Op.move (Operand.tmp 9), type := 56, pos := "law.go:192", after := #[{ on := 6, ground := Ground.guard }], guard := some (6, false) }) (v := _) [11, 12, 13] [] rfl rfl (by kernel_rfl) (by kernel_rfl) (by kernel_rfl) (by kernel_rfl) (by kernel_rfl) (by kernel_rfl) (by kernel_rfl) (fun _ _ _ h => h) (Or.inl ⟨by rfl, Or.inl ?hy16⟩) ?rest16
    case hy16 => (intro w' kk ss; (try dsimp only at ss); go_simp; first | done | with_reducible rfl)
    try simp only [Act.put, List.setIfInBounds_toArray, List.set_cons_zero, List.set_cons_succ]
    refine' Reg.wpG_take (i := 8) (oi := { dst := some 62, op := Op.load 30 (Operand.tmp 7), type := 30, pos := "law.go:192", after := #[{ on := 6, ground := Ground.guard }], guard := some (6, false) }) (v := _) [11, 12, 13] [] rfl rfl (by kernel_rfl) (by kernel_rfl) (by kernel_rfl) (by kernel_rfl) (by kernel_rfl) (by kernel_rfl) (by kernel_rfl) (fun _ _ _ h => h) (Or.inl ⟨by rfl, Or.inl ?hy17⟩) ?rest17
    case hy17 => (intro w' kk ss; (try dsimp only at ss); go_simp; first | done | with_reducible rfl)
    try simp only [Act.put, List.setIfInBounds_toArray, List.set_cons_zero, List.set_cons_succ]
    refine' Reg.wpG_take (i := 9) (oi := { dst := some 63, op := Op.load 24 (Operand.tmp 4), type := 24, pos := "law.go:192", after := #[{ on := 6, ground := Ground.guard }], guard := some (6, false) }) (v := _) [10, 11, 12, 13] [] rfl rfl (by kernel_rfl) (by kernel_rfl) (by kernel_rfl) (by kernel_rfl) (by kernel_rfl) (by kernel_rfl) (by kernel_rfl) (fun _ _ _ h => h) (Or.inl ⟨by rfl, Or.inl ?hy18⟩) ?rest18
    case hy18 => (intro w' kk ss; (try dsimp only at ss); go_simp; first | done | with_reducible rfl)
    try simp only [Act.put, List.setIfInBounds_toArray, List.set_cons_zero, List.set_cons_succ]
    refine Reg.wpG_take (i := 10) (oi := { dst := some 64, op := Op.call { callee := Callee.value (Operand.func 12), args := #[Operand.tmp 63], argTypes := #[24] }, type := 30, pos := "law.go:192", after := #[{ on := 9, ground := Ground.data }, { on := 6, ground := Ground.chain }, { on := 6, ground := Ground.guard }], guard := some (6, false) }) (v := sv b1 (.slice a1 d1.length cap1)) [11, 12, 13] [] rfl rfl (by kernel_rfl) (by kernel_rfl) (by kernel_rfl) (by kernel_rfl) (by kernel_rfl) (by kernel_rfl) (by kernel_rfl) (fun _ _ _ h => h) (Or.inl ⟨by rfl, Or.inr ⟨12, #[sv b1 (.slice a1 d1.length cap1)], fun w' kk ss => ⟨?_, ?_⟩⟩⟩) ?_
    · (try dsimp only at ss); go_simp
    · exact (Law03.theirs_any a1 d1.length cap1 b1 w').mono fun e w'' h => ⟨h.1, h.2, hall.out _ (hE.trans ((Since.drew (Since.refl _)).trans (kk.trans h.2)))⟩
    try simp only [Act.put, List.setIfInBounds_toArray, List.set_cons_zero, List.set_cons_succ]
    refine Reg.wpG_take (i := 11) (oi := { dst := some 65, op := Op.call { callee := Callee.value (Operand.tmp 61), args := #[Operand.tmp 62, Operand.tmp 64], argTypes := #[30, 30] }, type := 4, pos := "law.go:192", after := #[{ on := 7, ground := Ground.data }, { on := 8, ground := Ground.data }, { on := 10, ground := Ground.data }, { on := 10, ground := Ground.chain }, { on := 6, ground := Ground.guard }], guard := some (6, false) }) (v := .bool true) [12, 13] [] rfl rfl (by kernel_rfl) (by kernel_rfl) (by kernel_rfl) (by kernel_rfl) (by kernel_rfl) (by kernel_rfl) (by kernel_rfl) (fun _ _ _ h => h) (Or.inl ⟨by rfl, Or.inr ⟨36, #[sv false (.slice A1 s1.length q1), sv b1 (.slice a1 d1.length cap1)], fun w' kk ss => ⟨?_, ?_⟩⟩⟩) ?_
    · (try dsimp only at ss); go_simp
    · exact (Law03.divides_at A1 a1 q1 cap1 false b1 s1 d1 w' (r1.since (hE.trans ((Since.drew (Since.refl _)).trans kk))) (R1.out.since (hS0.trans (hS.trans (hE.trans ((Since.drew (Since.refl _)).trans kk))))) LS.out M1.out DB.out).mono fun e w'' h => ⟨h.1, h.2, hall.out _ (hE.trans ((Since.drew (Since.refl _)).trans (kk.trans h.2)))⟩
    try simp only [Act.put, List.setIfInBounds_toArray, List.set_cons_zero, List.set_cons_succ]
    refine' Reg.wpG_take (i := 12) (oi := { dst := some 66, op := Op.unOp UnOp.not 4 (Operand.tmp 65), type := 4, pos := "law.go:192", after := #[{ on := 11, ground := Ground.data }, { on := 6, ground := Ground.guard }], guard := some (6, false) }) (v := _) [13] [] rfl rfl (by kernel_rfl) (by kernel_rfl) (by kernel_rfl) (by kernel_rfl) (by kernel_rfl) (by kernel_rfl) (by kernel_rfl) (fun _ _ _ h => h) (Or.inl ⟨by rfl, Or.inl ?hy19⟩) ?rest19
    case hy19 => (intro w' kk ss; (try dsimp only at ss); go_simp; first | done | with_reducible rfl)
    try simp only [Act.put, List.setIfInBounds_toArray, List.set_cons_zero, List.set_cons_succ]
    refine' Reg.wpG_take (i := 13) (oi := { dst := some 67, op := Op.pick (Operand.tmp 60) (Operand.const (Value.bool true)) (Operand.tmp 66), type := 4, pos := "law.go:192", after := #[{ on := 6, ground := Ground.data }, { on := 12, ground := Ground.data }], guard := none }) (v := _) [] [] rfl rfl (by kernel_rfl) (by kernel_rfl) (by kernel_rfl) (by kernel_rfl) (by kernel_rfl) (by kernel_rfl) (by kernel_rfl) (fun _ _ _ h => h) (Or.inl ⟨by rfl, Or.inl ?hy20⟩) ?rest20
    case hy20 => (intro w' kk ss; (try dsimp only at ss); go_simp; first | done | with_reducible rfl)
    try simp only [Act.put, List.setIfInBounds_toArray, List.set_cons_zero, List.set_cons_succ]
    refine Reg.wpG_done (by kernel_rfl) (fun we ke se => ?_) _
    refine NoPanic.normal ?_
    have hE := hE.trans ((Since.drew (Since.refl _)).trans ke)
    clear ke
    obtain ⟨⟨k0, k1, k2, k3, k4, k5⟩, c00, c01⟩ := hall.out _ hE
    go_upto_region 13 with fail
    by_cases hd : d2.length = 0
    · have hz2 : decide (0 < d2.length) = false := by rw [decide_eq_false_iff_not]; omega
      have hz3 : decide ((0 : Int) < (d2.length : Int)) = false := by rw [decide_eq_false_iff_not]; omega
      refine wp_region_noPanic ?_
      refine Reg.wp_region_G (S := fun W => (W.cell? ⟨w.heap.size, 0, none⟩ = some (.bool b0) ∧ W.cell? ⟨w.heap.size, 1, none⟩ = some (.slice a0 d0.length cap0) ∧ W.cell? ⟨w.heap.size + 1, 0, none⟩ = some (.bool b1) ∧ W.cell? ⟨w.heap.size + 1, 1, none⟩ = some (.slice a1 d1.length cap1) ∧ W.cell? ⟨w.heap.size + 1 + 1, 0, none⟩ = some (.bool b2) ∧ W.cell? ⟨w.heap.size + 1 + 1, 1, none⟩ = some (.slice a2 d2.length cap2)) ∧ (W.cell? ⟨c0, 0, none⟩ = some (.bool false) ∧ W.cell? ⟨c0, 1, none⟩ = some (.slice A1 s1.length q1))) (fun j => [].contains j) (by kernel_rfl) ?_ ?_
      · exact hall.out _ (Since.drew hE)
      refine' Reg.wpG_take (i := 0) (oi := { dst := some 68, op := Op.fieldAddr 24 (Operand.tmp 5) 1, type := 0, pos := "law.go:195", after := #[], guard := none }) (v := _) [1, 2, 3, 4, 5, 6, 7, 8, 9, 10, 11, 12, 13, 14, 15, 16, 17, 18, 19, 20, 21, 22, 23, 24, 25, 26, 27] [] rfl rfl (by kernel_rfl) (by kernel_rfl) (by kernel_rfl) (by kernel_rfl) (by kernel_rfl) (by kernel_rfl) (by kernel_rfl) (fun _ _ _ h => h) (Or.inl ⟨by rfl, Or.inl ?hy21⟩) ?rest21
      case hy21 => (intro w' kk ss; (try dsimp only at ss); go_simp; first | done | with_reducible rfl)
      try simp only [Act.put, List.setIfInBounds_toArray, List.set_cons_zero, List.set_cons_succ]
      refine' Reg.wpG_take (i := 1) (oi := { dst := some 69, op := Op.load 22 (Operand.tmp 68), type := 22, pos := "law.go:195", after := #[{ on := 0, ground := Ground.data }], guard := none }) (v := _) [2, 3, 4, 5, 6, 7, 8, 9, 10, 11, 12, 13, 14, 15, 16, 17, 18, 19, 20, 21, 22, 23, 24, 25, 26, 27] [] rfl rfl (by kernel_rfl) (by kernel_rfl) (by kernel_rfl) (by kernel_rfl) (by kernel_rfl) (by kernel_rfl) (by kernel_rfl) (fun _ _ _ h => h) (Or.inl ⟨by rfl, Or.inl ?hy22⟩) ?rest22
      case hy22 => (intro w' kk ss; (try dsimp only at ss); go_simp; first | done | with_reducible rfl)
      try simp only [Act.put, List.setIfInBounds_toArray, List.set_cons_zero, List.set_cons_succ]
      refine' Reg.wpG_take (i := 2) (oi := { dst := some 70, op := Op.call { callee := Callee.builtin Builtin.len, args := #[Operand.tmp 69], argTypes := #[22] }, type := 3, pos := "law.go:195", after := #[{ on := 1, ground := Ground.data }], guard := none }) (v := _) [3, 4, 5, 6, 7, 8, 9, 10, 11, 12, 13, 14, 15, 16, 17, 18, 19, 20, 21, 22, 23, 24, 25, 26, 27] [] rfl rfl (by kernel_rfl) (by kernel_rfl) (by kernel_rfl) (by kernel_rfl) (by kernel_rfl) (by kernel_rfl) (by kernel_rfl) (fun _ _ _ h => h) (Or.inl ⟨by rfl, Or.inl ?hy23⟩) ?rest23
      case hy23 => (intro w' kk ss; (try dsimp only at ss); go_simp; first | done | with_reducible rfl)
      try simp only [Act.put, List.setIfInBounds_toArray, List.set_cons_zero, List.set_cons_succ]
      refine' Reg.wpG_take (i := 3) (oi := { dst := some 71, op := Op.binOp BinOp.gtr 3 (Operand.tmp 70) (Operand.const (Value.int IntKind.i64 0)) 3, type := 4, pos := "law.go:195", after := #[{ on := 2, ground := Ground.data }], guard := none }) (v := _) [4, 5, 6, 7, 8, 9, 10, 11, 12, 13, 14, 15, 16, 17, 18, 19, 20, 21, 22, 23, 24, 25, 26, 27] [] rfl rfl (by kernel_rfl) (by kernel_rfl) (by kernel_rfl) (by kernel_rfl) (by kernel_rfl) (by kernel_rfl) (by kernel_rfl) (fun _ _ _ h => h) (Or.inl ⟨by rfl, Or.inl ?hy24⟩) ?rest24
      case hy24 => (intro w' kk ss; (try dsimp only at ss); go_simp; first | done | with_reducible rfl)
      try simp only [Act.put, List.setIfInBounds_toArray, List.set_cons_zero, List.set_cons_succ]
      refine' Reg.wpG_take (i := 4) (oi := { dst := some 72, op := Op.move (Operand.tmp 71), type := 4, pos := "law.go:195", after := #[{ on := 3, ground := Ground.data }], guard := none }) (v := _) [5, 6, 7, 8, 9, 10, 11, 12, 13, 14, 15, 16, 17, 18, 19, 20, 21, 22, 23, 24, 25, 26, 27] [] rfl rfl (by kernel_rfl) (by kernel_rfl) (by kernel_rfl) (by kernel_rfl) (by kernel_rfl) (by kernel_rfl) (by kernel_rfl) (fun _ _ _ h => h) (Or.inl ⟨by rfl, Or.inl ?hy25⟩) ?rest25
      case hy25 => (intro w' kk ss; (try dsimp only at ss); go_simp; first | done | with_reducible rfl)
      try simp only [Act.put, List.setIfInBounds_toArray, List.set_cons_zero, List.set_cons_succ]
      refine Reg.wpG_take (i := 5) (oi := { dst := some 73, op := Op.move (Operand.tmp 9), type := 56, pos := "law.go:195", after := #[{ on := 4, ground := Ground.guard }], guard := some (4, true) }) (v := undef) [10, 11, 12, 13, 14, 15, 16, 17, 18, 19, 20, 21, 22, 23, 24, 25, 26, 27] [] rfl rfl (by kernel_rfl) (by kernel_rfl) (by kernel_rfl) (by kernel_rfl) (by kernel_rfl) (by kernel_rfl) (by kernel_rfl) (fun _ _ _ h => h) (Or.inr ⟨by rfl, rfl⟩) ?_
      try simp only [Act.put, List.setIfInBounds_toArray, List.set_cons_zero, List.set_cons_succ]
      refine Reg.wpG_take (i := 6) (oi := { dst := some 74, op := Op.load 24 (Operand.tmp 5), type := 24, pos := "law.go:195", after := #[{ on := 4, ground := Ground.guard }], guard := some (4, true) }) (v := undef) [7, 9, 10, 11, 12, 13, 14, 15, 16, 17, 18, 19, 20, 21, 22, 23, 24, 25, 26, 27] [] rfl rfl (by kernel_rfl) (by kernel_rfl) (by kernel_rfl) (by kernel_rfl) (by kernel_rfl) (by kernel_rfl) (by kernel_rfl) (fun _ _ _ h => h) (Or.inr ⟨by rfl, rfl⟩) ?_
      try simp only [Act.put, List.setIfInBounds_toArray, List.set_cons_zero, List.set_cons_succ]
      refine Reg.wpG_take (i := 7) (oi := { dst := some 75, op := Op.call { callee := Callee.value (Operand.func 12), args := #[Operand.tmp 74], argTypes := #[24] }, type := 30, pos := "law.go:195", after := #[{ on := 6, ground := Ground.data }, { on := 4, ground := Ground.chain }, { on := 4, ground := Ground.guard }], guard := some (4, true) }) (v := undef) [9, 10, 11, 12, 13, 14, 15, 16, 17, 18, 19, 20, 21, 22, 23, 24, 25, 26, 27] [] rfl rfl (by kernel_rfl) (by kernel_rfl) (by kernel_rfl) (by kernel_rfl) (by kernel_rfl) (by kernel_rfl) (by kernel_rfl) (fun _ _ _ h => h) (Or.inr ⟨by rfl, rfl⟩) ?_
      try simp only [Act.put, List.setIfInBounds_toArray, List.set_cons_zero, List.set_cons_succ]
      refine Reg.wpG_take (i := 8) (oi := { dst := some 76, op := Op.load 24 (Operand.tmp 3), type := 24, pos := "law.go:195", after := #[{ on := 4, ground := Ground.guard }], guard := some (4, true) }) (v := undef) [9, 10, 11, 12, 13, 14, 15, 16, 17, 18, 19, 20, 21, 22, 23, 24, 25, 26, 27] [] rfl rfl (by kernel_rfl) (by kernel_rfl) (by kernel_rfl) (by kernel_rfl) (by kernel_rfl) (by kernel_rfl) (by kernel_rfl) (fun _ _ _ h => h) (Or.inr ⟨by rfl, rfl⟩) ?_
      try simp only [Act.put, List.setIfInBounds_toArray, List.set_cons_zero, List.set_cons_succ]
      refine Reg.wpG_take (i := 9) (oi := { dst := some 77, op := Op.call { callee := Callee.value (Operand.func 12), args := #[Operand.tmp 76], argTypes := #[24] }, type := 30, pos := "law.go:195", after := #[{ on := 8, ground := Ground.data }, { on := 7, ground := Ground.chain }, { on := 4, ground := Ground.guard }], guard := some (4, true) }) (v := undef) [10, 11, 12, 13, 14, 15, 16, 17, 18, 19, 20, 21, 22, 23, 24, 25, 26, 27] [] rfl rfl (by kernel_rfl) (by kernel_rfl) (by kernel_rfl) (by kernel_rfl) (by kernel_rfl) (by kernel_rfl) (by kernel_rfl) (fun _ _ _ h => h) (Or.inr ⟨by rfl, rfl⟩) ?_
      try simp only [Act.put, List.setIfInBounds_toArray, List.set_cons_zero, List.set_cons_succ]
      refine Reg.wpG_take (i := 10) (oi := { dst := some 78, op := Op.call { callee := Callee.value (Operand.tmp 73), args := #[Operand.tmp 75, Operand.tmp 77], argTypes := #[30, 30] }, type := 4, pos := "law.go:195", after := #[{ on := 5, ground := Ground.data }, { on := 7, ground := Ground.data }, { on := 9, ground := Ground.data }, { on := 9, ground := Ground.chain }, { on := 4, ground := Ground.guard }], guard := some (4, true) }) (v := undef) [11, 12, 13, 14, 15, 16, 17, 18, 19, 20, 21, 22, 23, 24, 25, 26, 27] [] rfl rfl (by kernel_rfl) (by kernel_rfl) (by kernel_rfl) (by kernel_rfl) (by kernel_rfl) (by kernel_rfl) (by kernel_rfl) (fun _ _ _ h => h) (Or.inr ⟨by rfl, rfl⟩) ?_
      try simp only [Act.put, List.setIfInBounds_toArray, List.set_cons_zero, List.set_cons_succ]
      refine' Reg.wpG_take (i := 11) (oi := { dst := some 79, op := Op.pick (Operand.tmp 72) (Operand.tmp 78) (Operand.const (Value.bool false)), type := 4, pos := "law.go:195", after := #[{ on := 4, ground := Ground.data }, { on := 10, ground := Ground.data }], guard := none }) (v := _) [12, 13, 14, 15, 16, 17, 18, 19, 20, 21, 22, 23, 24, 25, 26, 27] [] rfl rfl (by kernel_rfl) (by kernel_rfl) (by kernel_rfl) (by kernel_rfl) (by kernel_rfl) (by kernel_rfl) (by kernel_rfl) (fun _ _ _ h => h) (Or.inl ⟨by rfl, Or.inl ?hy26⟩) ?rest26
      case hy26 => (intro w' kk ss; (try dsimp only at ss); go_simp; first | done | with_reducible rfl)
      try simp only [Act.put, List.setIfInBounds_toArray, List.set_cons_zero, List.set_cons_succ]
      refine' Reg.wpG_take (i := 12) (oi := { dst := some 80, op := Op.move (Operand.tmp 79), type := 4, pos := "law.go:195", after := #[{ on := 11, ground := Ground.data }, { on := 10, ground := Ground.chain }], guard := none }) (v := _) [13, 14, 15, 16, 17, 18, 19, 20, 21, 22, 23, 24, 25, 26, 27] [] rfl rfl (by kernel_rfl) (by kernel_rfl) (by kernel_rfl) (by kernel_rfl) (by kernel_rfl) (by kernel_rfl) (by kernel_rfl) (fun _ _ _ h => h) (Or.inl ⟨by rfl, Or.inl ?hy27⟩) ?rest27
      case hy27 => (intro w' kk ss; (try dsimp only at ss); go_simp; first | done | with_reducible rfl)
      try simp only [Act.put, List.setIfInBounds_toArray, List.set_cons_zero, List.set_cons_succ]
      refine Reg.wpG_take (i := 13) (oi := { dst := some 81, op := Op.move (Operand.tmp 9), type := 56, pos := "law.go:195", after := #[{ on := 12, ground := Ground.guard }], guard := some (12, true) }) (v := undef) [18, 19, 20, 21, 22, 23, 24, 25, 26, 27] [] rfl rfl (by kernel_rfl) (by kernel_rfl) (by kernel_rfl) (by kernel_rfl) (by kernel_rfl) (by kernel_rfl) (by kernel_rfl) (fun _ _ _ h => h) (Or.inr ⟨by rfl, rfl⟩) ?_
      try simp only [Act.put, List.setIfInBounds_toArray, List.set_cons_zero, List.set_cons_succ]
      refine Reg.wpG_take (i := 14) (oi := { dst := some 82, op := Op.load 24 (Operand.tmp 5), type := 24, pos := "law.go:195", after := #[{ on := 12, ground := Ground.guard }], guard := some (12, true) }) (v := undef) [15, 17, 18, 19, 20, 21, 22, 23, 24, 25, 26, 27] [] rfl rfl (by kernel_rfl) (by kernel_rfl) (by kernel_rfl) (by kernel_rfl) (by kernel_rfl) (by kernel_rfl) (by kernel_rfl) (fun _ _ _ h => h) (Or.inr ⟨by rfl, rfl⟩) ?_
      try simp only [Act.put, List.setIfInBounds_toArray, List.set_cons_zero, List.set_cons_succ]
      refine Reg.wpG_take (i := 15) (oi := { dst := some 83, op := Op.call { callee := Callee.value (Operand.func 12), args := #[Operand.tmp 82], argTypes := #[24] }, type := 30, pos := "law.go:195", after := #[{ on := 14, ground := Ground.data }, { on := 12, ground := Ground.chain }, { on := 12, ground := Ground.guard }], guard := some (12, true) }) (v := undef) [17, 18, 19, 20, 21, 22, 23, 24, 25, 26, 27] [] rfl rfl (by kernel_rfl) (by kernel_rfl) (by kernel_rfl) (by kernel_rfl) (by kernel_rfl) (by kernel_rfl) (by kernel_rfl) (fun _ _ _ h => h) (Or.inr ⟨by rfl, rfl⟩) ?_
      try simp only [Act.put, List.setIfInBounds_toArray, List.set_cons_zero, List.set_cons_succ]
      refine Reg.wpG_take (i := 16) (oi := { dst := some 84, op := Op.load 24 (Operand.tmp 4), type := 24, pos := "law.go:195", after := #[{ on := 12, ground := Ground.guard }], guard := some (12, true) }) (v := undef) [17, 18, 19, 20, 21, 22, 23, 24, 25, 26, 27] [] rfl rfl (by kernel_rfl) (by kernel_rfl) (by kernel_rfl) (by kernel_rfl) (by kernel_rfl) (by kernel_rfl) (by kernel_rfl) (fun _ _ _ h => h) (Or.inr ⟨by rfl, rfl⟩) ?_
      try simp only [Act.put, List.setIfInBounds_toArray, List.set_cons_zero, List.set_cons_succ]
      refine Reg.wpG_take (i := 17) (oi := { dst := some 85, op := Op.call { callee := Callee.value (Operand.func 12), args := #[Operand.tmp 84], argTypes := #[24] }, type := 30, pos := "law.go:195", after := #[{ on := 16, ground := Ground.data }, { on := 15, ground := Ground.chain }, { on := 12, ground := Ground.guard }], guard := some (12, true) }) (v := undef) [18, 19, 20, 21, 22, 23, 24, 25, 26, 27] [] rfl rfl (by kernel_rfl) (by kernel_rfl) (by kernel_rfl) (by kernel_rfl) (by kernel_rfl) (by kernel_rfl) (by kernel_rfl) (fun _ _ _ h => h) (Or.inr ⟨by rfl, rfl⟩) ?_
      try simp only [Act.put, List.setIfInBounds_toArray, List.set_cons_zero, List.set_cons_succ]
      refine Reg.wpG_take (i := 18) (oi := { dst := some 86, op := Op.call { callee := Callee.value (Operand.tmp 81), args := #[Operand.tmp 83, Operand.tmp 85], argTypes := #[30, 30] }, type := 4, pos := "law.go:195", after := #[{ on := 13, ground := Ground.data }, { on := 15, ground := Ground.data }, { on := 17, ground := Ground.data }, { on := 17, ground := Ground.chain }, { on := 12, ground := Ground.guard }], guard := some (12, true) }) (v := undef) [19, 20, 21, 22, 23, 24, 25, 26, 27] [] rfl rfl (by kernel_rfl) (by kernel_rfl) (by kernel_rfl) (by kernel_rfl) (by kernel_rfl) (by kernel_rfl) (by kernel_rfl) (fun _ _ _ h => h) (Or.inr ⟨by rfl, rfl⟩) ?_
      try simp only [Act.put, List.setIfInBounds_toArray, List.set_cons_zero, List.set_cons_succ]
      refine' Reg.wpG_take (i := 19) (oi := { dst := some 87, op := Op.pick (Operand.tmp 80) (Operand.tmp 86) (Operand.const (Value.bool false)), type := 4, pos := "law.go:195", after := #[{ on := 12, ground := Ground.data }, { on := 18, ground := Ground.data }], guard := none }) (v := _) [20, 21, 22, 23, 24, 25, 26, 27] [] rfl rfl (by kernel_rfl) (by kernel_rfl) (by kernel_rfl) (by kernel_rfl) (by kernel_rfl) (by kernel_rfl) (by kernel_rfl) (fun _ _ _ h => h) (Or.inl ⟨by rfl, Or.inl ?hy28⟩) ?rest28
      case hy28 => (intro w' kk ss; (try dsimp only at ss); go_simp; first | done | with_reducible rfl)
      try simp only [Act.put, List.setIfInBounds_toArray, List.set_cons_zero, List.set_cons_succ]
      refine' Reg.wpG_take (i := 20) (oi := { dst := some 88, op := Op.move (Operand.tmp 87), type := 4, pos := "law.go:195", after := #[{ on := 19, ground := Ground.data }, { on := 18, ground := Ground.chain }], guard := none }) (v := _) [21, 22, 23, 24, 25, 26, 27] [] rfl rfl (by kernel_rfl) (by kernel_rfl) (by kernel_rfl) (by kernel_rfl) (by kernel_rfl) (by kernel_rfl) (by kernel_rfl) (fun _ _ _ h => h) (Or.inl ⟨by rfl, Or.inl ?hy29⟩) ?rest29
      case hy29 => (intro w' kk ss; (try dsimp only at ss); go_simp; first | done | with_reducible rfl)
      try simp only [Act.put, List.setIfInBounds_toArray, List.set_cons_zero, List.set_cons_succ]
      refine Reg.wpG_take (i := 21) (oi := { dst := some 89, op := Op.move (Operand.tmp 9), type := 56, pos := "law.go:195", after := #[{ on := 20, ground := Ground.guard }], guard := some (20, true) }) (v := undef) [25, 26, 27] [] rfl rfl (by kernel_rfl) (by kernel_rfl) (by kernel_rfl) (by kernel_rfl) (by kernel_rfl) (by kernel_rfl) (by kernel_rfl) (fun _ _ _ h => h) (Or.inr ⟨by rfl, rfl⟩) ?_
      try simp only [Act.put, List.setIfInBounds_toArray, List.set_cons_zero, List.set_cons_succ]
      refine Reg.wpG_take (i := 22) (oi := { dst := some 90, op := Op.load 24 (Operand.tmp 5), type := 24, pos := "law.go:195", after := #[{ on := 20, ground := Ground.guard }], guard := some (20, true) }) (v := undef) [23, 25, 26, 27] [] rfl rfl (by kernel_rfl) (by kernel_rfl) (by kernel_rfl) (by kernel_rfl) (by kernel_rfl) (by kernel_rfl) (by kernel_rfl) (fun _ _ _ h => h) (Or.inr ⟨by rfl, rfl⟩) ?_
      try simp only [Act.put, List.setIfInBounds_toArray, List.set_cons_zero, List.set_cons_succ]
      refine Reg.wpG_take (i := 23) (oi := { dst := some 91, op := Op.call { callee := Callee.value (Operand.func 12), args := #[Operand.tmp 90], argTypes := #[24] }, type := 30, pos := "law.go:195", after := #[{ on := 22, ground := Ground.data }, { on := 20, ground := Ground.chain }, { on := 20, ground := Ground.guard }], guard := some (20, true) }) (v := undef) [25, 26, 27] [] rfl rfl (by kernel_rfl) (by kernel_rfl) (by kernel_rfl) (by kernel_rfl) (by kernel_rfl) (by kernel_rfl) (by kernel_rfl) (fun _ _ _ h => h) (Or.inr ⟨by rfl, rfl⟩) ?_
      try simp only [Act.put, List.setIfInBounds_toArray, List.set_cons_zero, List.set_cons_succ]
      refine Reg.wpG_take (i := 24) (oi := { dst := some 92, op := Op.load 30 (Operand.tmp 7), type := 30, pos := "law.go:195", after := #[{ on := 20, ground := Ground.guard }], guard := some (20, true) }) (v := undef) [25, 26, 27] [] rfl rfl (by kernel_rfl) (by kernel_rfl) (by kernel_rfl) (by kernel_rfl) (by kernel_rfl) (by kernel_rfl) (by kernel_rfl) (fun _ _ _ h => h) (Or.inr ⟨by rfl, rfl⟩) ?_
      try simp only [Act.put, List.setIfInBounds_toArray, List.set_cons_zero, List.set_cons_succ]
      refine Reg.wpG_take (i := 25) (oi := { dst := some 93, op := Op.call { callee := Callee.value (Operand.tmp 89), args := #[Operand.tmp 91, Operand.tmp 92], argTypes := #[30, 30] }, type := 4, pos := "law.go:195", after := #[{ on := 21, ground := Ground.data }, { on := 23, ground := Ground.data }, { on := 24, ground := Ground.data }, { on := 23, ground := Ground.chain }, { on := 20, ground := Ground.guard }], guard := some (20, true) }) (v := undef) [26, 27] [] rfl rfl (by kernel_rfl) (by kernel_rfl) (by kernel_rfl) (by kernel_rfl) (by kernel_rfl) (by kernel_rfl) (by kernel_rfl) (fun _ _ _ h => h) (Or.inr ⟨by rfl, rfl⟩) ?_
      try simp only [Act.put, List.setIfInBounds_toArray, List.set_cons_zero, List.set_cons_succ]
      refine Reg.wpG_take (i := 26) (oi := { dst := some 94, op := Op.unOp UnOp.not 4 (Operand.tmp 93), type := 4, pos := "law.go:195", after := #[{ on := 25, ground := Ground.data }, { on := 20, ground := Ground.guard }], guard := some (20, true) }) (v := undef) [27] [] rfl rfl (by kernel_rfl) (by kernel_rfl) (by kernel_rfl) (by kernel_rfl) (by kernel_rfl) (by kernel_rfl) (by kernel_rfl) (fun _ _ _ h => h) (Or.inr ⟨by rfl, rfl⟩) ?_
      try simp only [Act.put, List.setIfInBounds_toArray, List.set_cons_zero, List.set_cons_succ]
      refine' Reg.wpG_take (i := 27) (oi := { dst := some 95, op := Op.pick (Operand.tmp 88) (Operand.tmp 94) (Operand.const (Value.bool false)), type := 4, pos := "law.go:195", after := #[{ on := 20, ground := Ground.data }, { on := 26, ground := Ground.data }], guard := none }) (v := _) [] [] rfl rfl (by kernel_rfl) (by kernel_rfl) (by kernel_rfl) (by kernel_rfl) (by kernel_rfl) (by kernel_rfl) (by kernel_rfl) (fun _ _ _ h => h) (Or.inl ⟨by rfl, Or.inl ?hy30⟩) ?rest30
      case hy30 => (intro w' kk ss; (try dsimp only at ss); go_simp; first | done | with_reducible rfl)
      try simp only [Act.put, List.setIfInBounds_toArray, List.set_cons_zero, List.set_cons_succ]
      refine Reg.wpG_done (by kernel_rfl) (fun we ke se => ?_) _
      refine NoPanic.normal ?_
      have hE := hE.trans ((Since.drew (Since.refl _)).trans ke)
      clear ke
      go_wp2_with fail
      go_ret
      exact ⟨rfl, hS0.trans (hS.trans hE)⟩
    have hz2 : decide (0 < d2.length) = true := by rw [decide_eq_true_iff]; omega
    have hz3 : decide ((0 : Int) < (d2.length : Int)) = true := by rw [decide_eq_true_iff]; omega
    have D0 := Law03.divides_num R0.out.dig RT.out.2.2 RT.out.1 hd
    have D1 := Law03.divides_num R1.out.dig RT.out.2.2 RT.out.2.1 hd
    have D2 := Law03.divides_num DS.out RT.out.2.2 RS.out hd
    by_cases x0 : num d2 ∣ num d0
    · have D0 := Lib.hid (D0.trans (decide_eq_true x0))
      by_cases x1 : num d2 ∣ num d1
      · have D1 := Lib.hid (D1.trans (decide_eq_true x1))
        have D2 := Lib.hid (D2.trans (decide_eq_true (by rw [NS.out]; exact Nat.dvd_gcd x0 x1)))
        clear x0 x1 hd hz
        refine wp_region_noPanic ?_
        refine Reg.wp_region_G (S := fun W => (W.cell? ⟨w.heap.size, 0, none⟩ = some (.bool b0) ∧ W.cell? ⟨w.heap.size, 1, none⟩ = some (.slice a0 d0.length cap0) ∧ W.cell? ⟨w.heap.size + 1, 0, none⟩ = some (.bool b1) ∧ W.cell? ⟨w.heap.size + 1, 1, none⟩ = some (.slice a1 d1.length cap1) ∧ W.cell? ⟨w.heap.size + 1 + 1, 0, none⟩ = some (.bool b2) ∧ W.cell? ⟨w.heap.size + 1 + 1, 1, none⟩ = some (.slice a2 d2.length cap2)) ∧ (W.cell? ⟨c0, 0, none⟩ = some (.bool false) ∧ W.cell? ⟨c0, 1, none⟩ = some (.slice A1 s1.length q1))) (fun j => [].contains j) (by kernel_rfl) ?_ ?_
        · exact hall.out _ (Since.drew hE)
        refine' Reg.wpG_take (i := 0) (oi := { dst := some 68, op := Op.fieldAddr 24 (Operand.tmp 5) 1, type := 0, pos := "law.go:195", after := #[], guard := none }) (v := _) [1, 2, 3, 4, 5, 6, 7, 8, 9, 10, 11, 12, 13, 14, 15, 16, 17, 18, 19, 20, 21, 22, 23, 24, 25, 26, 27] [] rfl rfl (by kernel_rfl) (by kernel_rfl) (by kernel_rfl) (by kernel_rfl) (by kernel_rfl) (by kernel_rfl) (by kernel_rfl) (fun _ _ _ h => h) (Or.inl ⟨by rfl, Or.inl ?hy31⟩) ?rest31
        case hy31 => (intro w' kk ss; (try dsimp only at ss); go_simp; first | done | with_reducible rfl)
        try simp only [Act.put, List.setIfInBounds_toArray, List.set_cons_zero, List.set_cons_succ]
        refine' Reg.wpG_take (i := 1) (oi := { dst := some 69, op := Op.load 22 (Operand.tmp 68), type := 22, pos := "law.go:195", after := #[{ on := 0, ground := Ground.data }], guard := none }) (v := _) [2, 3, 4, 5, 6, 7, 8, 9, 10, 11, 12, 13, 14, 15, 16, 17, 18, 19, 20, 21, 22, 23, 24, 25, 26, 27] [] rfl rfl (by kernel_rfl) (by kernel_rfl) (by kernel_rfl) (by kernel_rfl) (by kernel_rfl) (by kernel_rfl) (by kernel_rfl) (fun _ _ _ h => h) (Or.inl ⟨by rfl, Or.inl ?hy32⟩) ?rest32
        case hy32 => (intro w' kk ss; (try dsimp only at ss); go_simp; first | done | with_reducible rfl)
        try simp only [Act.put, List.setIfInBounds_toArray, List.set_cons_zero, List.set_cons_succ]
        refine' Reg.wpG_take (i := 2) (oi := { dst := some 70, op := Op.call { callee := Callee.builtin Builtin.len, args := #[Operand.tmp 69], argTypes := #[22] }, type := 3, pos := "law.go:195", after := #[{ on := 1, ground := Ground.data }], guard := none }) (v := _) [3, 4, 5, 6, 7, 8, 9, 10, 11, 12, 13, 14, 15, 16, 17, 18, 19, 20, 21, 22, 23, 24, 25, 26, 27] [] rfl rfl (by kernel_rfl) (by kernel_rfl) (by kernel_rfl) (by kernel_rfl) (by kernel_rfl) (by kernel_rfl) (by kernel_rfl) (fun _ _ _ h => h) (Or.inl ⟨by rfl, Or.inl ?hy33⟩) ?rest33
        case hy33 => (intro w' kk ss; (try dsimp only at ss); go_simp; first | done | with_reducible rfl)
        try simp only [Act.put, List.setIfInBounds_toArray, List.set_cons_zero, List.set_cons_succ]
        refine' Reg.wpG_take (i := 3) (oi := { dst := some 71, op := Op.binOp BinOp.gtr 3 (Operand.tmp 70) (Operand.const (Value.int IntKind.i64 0)) 3, type := 4, pos := "law.go:195", after := #[{ on := 2, ground := Ground.data }], guard := none }) (v := _) [4, 5, 6, 7, 8, 9, 10, 11, 12, 13, 14, 15, 16, 17, 18, 19, 20, 21, 22, 23, 24, 25, 26, 27] [] rfl rfl (by kernel_rfl) (by kernel_rfl) (by kernel_rfl) (by kernel_rfl) (by kernel_rfl) (by kernel_rfl) (by kernel_rfl) (fun _ _ _ h => h) (Or.inl ⟨by rfl, Or.inl ?hy34⟩) ?rest34
        case hy34 => (intro w' kk ss; (try dsimp only at ss); go_simp; first | done | with_reducible rfl)
        try simp only [Act.put, List.setIfInBounds_toArray, List.set_cons_zero, List.set_cons_succ]
        refine' Reg.wpG_take (i := 4) (oi := { dst := some 72, op := Op.move (Operand.tmp 71), type := 4, pos := "law.go:195", after := #[{ on := 3, ground := Ground.data }], guard := none }) (v := _) [5, 6, 7, 8, 9, 10, 11, 12, 13, 14, 15, 16, 17, 18, 19, 20, 21, 22, 23, 24, 25, 26, 27] [] rfl rfl (by kernel_rfl) (by kernel_rfl) (by kernel_rfl) (by kernel_rfl) (by kernel_rfl) (by kernel_rfl) (by kernel_rfl) (fun _ _ _ h => h) (Or.inl ⟨by rfl, Or.inl ?hy35⟩) ?rest35
        case hy35 => (intro w' kk ss; (try dsimp only at ss); go_simp; first | done | with_reducible rfl)
        try simp only [Act.put, List.setIfInBounds_toArray, List.set_cons_zero, List.set_cons_succ]
        refine' Reg.wpG_take (i := 5) (oi := { dst := some 73, op := Op.move (Operand.tmp 9), type := 56, pos := "law.go:195", after := #[{ on := 4, ground := Ground.guard }], guard := some (4, true) }) (v := _) [10, 11, 12, 13, 14, 15, 16, 17, 18, 19, 20, 21, 22, 23, 24, 25, 26, 27] [] rfl rfl (by kernel_rfl) (by kernel_rfl) (by kernel_rfl) (by kernel_rfl) (by kernel_rfl) (by kernel_rfl) (by kernel_rfl) (fun _ _ _ h => h) (Or.inl ⟨by rfl, Or.inl ?hy36⟩) ?rest36
        case hy36 => (intro w' kk ss; (try dsimp only at ss); go_simp; first | done | with_reducible rfl)
        try simp only [Act.put, List.setIfInBounds_toArray, List.set_cons_zero, List.set_cons_succ]
        refine' Reg.wpG_take (i := 6) (oi := { dst := some 74, op := Op.load 24 (Operand.tmp 5), type := 24, pos := "law.go:195", after := #[{ on := 4, ground := Ground.guard }], guard := some (4, true) }) (v := _) [7, 9, 10, 11, 12, 13, 14, 15, 16, 17, 18, 19, 20, 21, 22, 23, 24, 25, 26, 27] [] rfl rfl (by kernel_rfl) (by kernel_rfl) (by kernel_rfl) (by kernel_rfl) (by kernel_rfl) (by kernel_rfl) (by kernel_rfl) (fun _ _ _ h => h) (Or.inl ⟨by rfl, Or.inl ?hy37⟩) ?rest37
        case hy37 => (intro w' kk ss; (try dsimp only at ss); go_simp; first | done | with_reducible rfl)
        try simp only [Act.put, List.setIfInBounds_toArray, List.set_cons_zero, List.set_cons_succ]
        refine Reg.wpG_take (i := 7) (oi := { dst := some 75, op := Op.call { callee := Callee.value (Operand.func 12), args := #[Operand.tmp 74], argTypes := #[24] }, type := 30, pos := "law.go:195", after := #[{ on := 6, ground := Ground.data }, { on := 4, ground := Ground.chain }, { on := 4, ground := Ground.guard }], guard := some (4, true) }) (v := sv b2 (.slice a2 d2.length cap2)) [9, 10, 11, 12, 13, 14, 15, 16, 17, 18, 19, 20, 21, 22, 23, 24, 25, 26, 27] [] rfl rfl (by kernel_rfl) (by kernel_rfl) (by kernel_rfl) (by kernel_rfl) (by kernel_rfl) (by kernel_rfl) (by kernel_rfl) (fun _ _ _ h => h) (Or.inl ⟨by rfl, Or.inr ⟨12, #[sv b2 (.slice a2 d2.length cap2)], fun w' kk ss => ⟨?_, ?_⟩⟩⟩) ?_
        · (try dsimp only at ss); go_simp
        · exact (Law03.theirs_any a2 d2.length cap2 b2 w').mono fun e w'' h => ⟨h.1, h.2, hall.out _ (hE.trans ((Since.drew (Since.refl _)).trans (kk.trans h.2)))⟩
        try simp only [Act.put, List.setIfInBounds_toArray, List.set_cons_zero, List.set_cons_succ]
        refine' Reg.wpG_take (i := 8) (oi := { dst := some 76, op := Op.load 24 (Operand.tmp 3), type := 24, pos := "law.go:195", after := #[{ on := 4, ground := Ground.guard }], guard := some (4, true) }) (v := _) [9, 10, 11, 12, 13, 14, 15, 16, 17, 18, 19, 20, 21, 22, 23, 24, 25, 26, 27] [] rfl rfl (by kernel_rfl) (by kernel_rfl) (by kernel_rfl) (by kernel_rfl) (by kernel_rfl) (by kernel_rfl) (by kernel_rfl) (fun _ _ _ h => h) (Or.inl ⟨by rfl, Or.inl ?hy38⟩) ?rest38
        case hy38 => (intro w' kk ss; (try dsimp only at ss); go_simp; first | done | with_reducible rfl)
        try simp only [Act.put, List.setIfInBounds_toArray, List.set_cons_zero, List.set_cons_succ]
        refine Reg.wpG_take (i := 9) (oi := { dst := some 77, op := Op.call { callee := Callee.value (Operand.func 12), args := #[Operand.tmp 76], argTypes := #[24] }, type := 30, pos := "law.go:195", after := #[{ on := 8, ground := Ground.data }, { on := 7, ground := Ground.chain }, { on := 4, ground := Ground.guard }], guard := some (4, true) }) (v := sv b0 (.slice a0 d0.length cap0)) [10, 11, 12, 13, 14, 15, 16, 17, 18, 19, 20, 21, 22, 23, 24, 25, 26, 27] [] rfl rfl (by kernel_rfl) (by kernel_rfl) (by kernel_rfl) (by kernel_rfl) (by kernel_rfl) (by kernel_rfl) (by kernel_rfl) (fun _ _ _ h => h) (Or.inl ⟨by rfl, Or.inr ⟨12, #[sv b0 (.slice a0 d0.length cap0)], fun w' kk ss => ⟨?_, ?_⟩⟩⟩) ?_
        · (try dsimp only at ss); go_simp
        · exact (Law03.theirs_any a0 d0.length cap0 b0 w').mono fun e w'' h => ⟨h.1, h.2, hall.out _ (hE.trans ((Since.drew (Since.refl _)).trans (kk.trans h.2)))⟩
        try simp only [Act.put, List.setIfInBounds_toArray, List.set_cons_zero, List.set_cons_succ]
        refine Reg.wpG_take (i := 10) (oi := { dst := some 78, op := Op.call { callee := Callee.value (Operand.tmp 73), args := #[Operand.tmp 75, Operand.tmp 77], argTypes := #[30, 30] }, type := 4, pos := "law.go:195", after := #[{ on := 5, ground := Ground.data }, { on := 7, ground := Ground.data }, { on := 9, ground := Ground.data }, { on := 9, ground := Ground.chain }, { on := 4, ground := Ground.guard }], guard := some (4, true) }) (v := .bool true) [11, 12, 13, 14, 15, 16, 17, 18, 19, 20, 21, 22, 23, 24, 25, 26, 27] [] rfl rfl (by kernel_rfl) (by kernel_rfl) (by kernel_rfl) (by kernel_rfl) (by kernel_rfl) (by kernel_rfl) (by kernel_rfl) (fun _ _ _ h => h) (Or.inl ⟨by rfl, Or.inr ⟨36, #[sv b2 (.slice a2 d2.length cap2), sv b0 (.slice a0 d0.length cap0)], fun w' kk ss => ⟨?_, ?_⟩⟩⟩) ?_
        · (try dsimp only at ss); go_simp
        · exact (Law03.divides_at a2 a0 cap2 cap0 b2 b0 d2 d0 w' (R2.out.since (hS0.trans (hS.trans (hE.trans ((Since.drew (Since.refl _)).trans kk))))) (R0.out.since (hS0.trans (hS.trans (hE.trans ((Since.drew (Since.refl _)).trans kk))))) M2.out M0.out D0.out).mono fun e w'' h => ⟨h.1, h.2, hall.out _ (hE.trans ((Since.drew (Since.refl _)).trans (kk.trans h.2)))⟩
        try simp only [Act.put, List.setIfInBounds_toArray, List.set_cons_zero, List.set_cons_succ]
        refine' Reg.wpG_take (i := 11) (oi := { dst := some 79, op := Op.pick (Operand.tmp 72) (Operand.tmp 78) (Operand.const (Value.bool false)), type := 4, pos := "law.go:195", after := #[{ on := 4, ground := Ground.data }, { on := 10, ground := Ground.data }], guard := none }) (v := _) [12, 13, 14, 15, 16, 17, 18, 19, 20, 21, 22, 23, 24, 25, 26, 27] [] rfl rfl (by kernel_rfl) (by kernel_rfl) (by kernel_rfl) (by kernel_rfl) (by kernel_rfl) (by kernel_rfl) (by kernel_rfl) (fun _ _ _ h => h) (Or.inl ⟨by rfl, Or.inl ?hy39⟩) ?rest39
        case hy39 => (intro w' kk ss; (try dsimp only at ss); go_simp; first | done | with_reducible rfl)
        try simp only [Act.put, List.setIfInBounds_toArray, List.set_cons_zero, List.set_cons_succ]
        refine' Reg.wpG_take (i := 12) (oi := { dst := some 80, op := Op.move (Operand.tmp 79), type := 4, pos := "law.go:195", after := #[{ on := 11, ground := Ground.data }, { on := 10, ground := Ground.chain }], guard := none }) (v := _) [13, 14, 15, 16, 17, 18, 19, 20, 21, 22, 23, 24, 25, 26, 27] [] rfl rfl (by kernel_rfl) (by kernel_rfl) (by kernel_rfl) (by kernel_rfl) (by kernel_rfl) (by kernel_rfl) (by kernel_rfl) (fun _ _ _ h => h) (Or.inl ⟨by rfl, Or.inl ?hy40⟩) ?rest40
        case hy40 => (intro w' kk ss; (try dsimp only at ss); go_simp; first | done | with_reducible rfl)
        try simp only [Act.put, List.setIfInBounds_toArray, List.set_cons_zero, List.set_cons_succ]
        refine' Reg.wpG_take (i := 13) (oi := { dst := some 81, op := Op.move (Operand.tmp 9), type := 56, pos := "law.go:195", after := #[{ on := 12, ground := Ground.guard }], guard := some (12, true) }) (v := _) [18, 19, 20, 21, 22, 23, 24, 25, 26, 27] [] rfl rfl (by kernel_rfl) (by kernel_rfl) (by kernel_rfl) (by kernel_rfl) (by kernel_rfl) (by kernel_rfl) (by kernel_rfl) (fun _ _ _ h => h) (Or.inl ⟨by rfl, Or.inl ?hy41⟩) ?rest41
        case hy41 => (intro w' kk ss; (try dsimp only at ss); go_simp; first | done | with_reducible rfl)
        try simp only [Act.put, List.setIfInBounds_toArray, List.set_cons_zero, List.set_cons_succ]
        refine' Reg.wpG_take (i := 14) (oi := { dst := some 82, op := Op.load 24 (Operand.tmp 5), type := 24, pos := "law.go:195", after := #[{ on := 12, ground := Ground.guard }], guard := some (12, true) }) (v := _) [15, 17, 18, 19, 20, 21, 22, 23, 24, 25, 26, 27] [] rfl rfl (by kernel_rfl) (by kernel_rfl) (by kernel_rfl) (by kernel_rfl) (by kernel_rfl) (by kernel_rfl) (by kernel_rfl) (fun _ _ _ h => h) (Or.inl ⟨by rfl, Or.inl ?hy42⟩) ?rest42
        case hy42 => (intro w' kk ss; (try dsimp only at ss); go_simp; first | done | with_reducible rfl)
        try simp only [Act.put, List.setIfInBounds_toArray, List.set_cons_zero, List.set_cons_succ]
        refine Reg.wpG_take (i := 15) (oi := { dst := some 83, op := Op.call { callee := Callee.value (Operand.func 12), args := #[Operand.tmp 82], argTypes := #[24] }, type := 30, pos := "law.go:195", after := #[{ on := 14, ground := Ground.data }, { on := 12, ground := Ground.chain }, { on := 12, ground := Ground.guard }], guard := some (12, true) }) (v := sv b2 (.slice a2 d2.length cap2)) [17, 18, 19, 20, 21, 22, 23, 24, 25, 26, 27] [] rfl rfl (by kernel_rfl) (by kernel_rfl) (by kernel_rfl) (by kernel_rfl) (by kernel_rfl) (by kernel_rfl) (by kernel_rfl) (fun _ _ _ h => h) (Or.inl ⟨by rfl, Or.inr ⟨12, #[sv b2 (.slice a2 d2.length cap2)], fun w' kk ss => ⟨?_, ?_⟩⟩⟩) ?_
        · (try dsimp only at ss); go_simp
        · exact (Law03.theirs_any a2 d2.length cap2 b2 w').mono fun e w'' h => ⟨h.1, h.2, hall.out _ (hE.trans ((Since.drew (Since.refl _)).trans (kk.trans h.2)))⟩
        try simp only [Act.put, List.setIfInBounds_toArray, List.set_cons_zero, List.set_cons_succ]
        refine' Reg.wpG_take (i := 16) (oi := { dst := some 84, op := Op.load 24 (Operand.tmp 4), type := 24, pos := "law.go:195", after := #[{ on := 12, ground := Ground.guard }], guard := some (12, true) }) (v := _) [17, 18, 19, 20, 21, 22, 23, 24, 25, 26, 27] [] rfl rfl (by kernel_rfl) (by kernel_rfl) (by kernel_rfl) (by kernel_rfl) (by kernel_rfl) (by kernel_rfl) (by kernel_rfl) (fun _ _ _ h => h) (Or.inl ⟨by rfl, Or.inl ?hy43⟩) ?rest43
        case hy43 => (intro w' kk ss; (try dsimp only at ss); go_simp; first | done | with_reducible rfl)
        try simp only [Act.put, List.setIfInBounds_toArray, List.set_cons_zero, List.set_cons_succ]
        refine Reg.wpG_take (i := 17) (oi := { dst := some 85, op := Op.call { callee := Callee.value (Operand.func 12), args := #[Operand.tmp 84], argTypes := #[24] }, type := 30, pos := "law.go:195", after := #[{ on := 16, ground := Ground.data }, { on := 15, ground := Ground.chain }, { on := 12, ground := Ground.guard }], guard := some (12, true) }) (v := sv b1 (.slice a1 d1.length cap1)) [18, 19, 20, 21, 22, 23, 24, 25, 26, 27] [] rfl rfl (by kernel_rfl) (by kernel_rfl) (by kernel_rfl) (by kernel_rfl) (by kernel_rfl) (by kernel_rfl) (by kernel_rfl) (fun _ _ _ h => h) (Or.inl ⟨by rfl, Or.inr ⟨12, #[sv b1 (.slice a1 d1.length cap1)], fun w' kk ss => ⟨?_, ?_⟩⟩⟩) ?_
        · (try dsimp only at ss); go_simp
        · exact (Law03.theirs_any a1 d1.length cap1 b1 w').mono fun e w'' h => ⟨h.1, h.2, hall.out _ (hE.trans ((Since.drew (Since.refl _)).trans (kk.trans h.2)))⟩
        try simp only [Act.put, List.setIfInBounds_toArray, List.set_cons_zero, List.set_cons_succ]
        refine Reg.wpG_take (i := 18) (oi := { dst := some 86, op := Op.call { callee := Callee.value (Operand.tmp 81), args := #[Operand.tmp 83, Operand.tmp 85], argTypes := #[30, 30] }, type := 4, pos := "law.go:195", after := #[{ on := 13, ground := Ground.data }, { on := 15, ground := Ground.data }, { on := 17, ground := Ground.data }, { on := 17, ground := Ground.chain }, { on := 12, ground := Ground.guard }], guard := some (12, true) }) (v := .bool true) [19, 20, 21, 22, 23, 24, 25, 26, 27] [] rfl rfl (by kernel_rfl) (by kernel_rfl) (by kernel_rfl) (by kernel_rfl) (by kernel_rfl) (by kernel_rfl) (by kernel_rfl) (fun _ _ _ h => h) (Or.inl ⟨by rfl, Or.inr ⟨36, #[sv b2 (.slice a2 d2.length cap2), sv b1 (.slice a1 d1.length cap1)], fun w' kk ss => ⟨?_, ?_⟩⟩⟩) ?_
        · (try dsimp only at ss); go_simp
        · exact (Law03.divides_at a2 a1 cap2 cap1 b2 b1 d2 d1 w' (R2.out.since (hS0.trans (hS.trans (hE.trans ((Since.drew (Since.refl _)).trans kk))))) (R1.out.since (hS0.trans (hS.trans (hE.trans ((Since.drew (Since.refl _)).trans kk))))) M2.out M1.out D1.out).mono fun e w'' h => ⟨h.1, h.2, hall.out _ (hE.trans ((Since.drew (Since.refl _)).trans (kk.trans h.2)))⟩
        try simp only [Act.put, List.setIfInBounds_toArray, List.set_cons_zero, List.set_cons_succ]
        refine' Reg.wpG_take (i := 19) (oi := { dst := some 87, op := Op.pick (Operand.tmp 80) (Operand.tmp 86) (Operand.const (Value.bool false)), type := 4, pos := "law.go:195", after := #[{ on := 12, ground := Ground.data }, { on := 18, ground := Ground.data }], guard := none }) (v := _) [20, 21, 22, 23, 24, 25, 26, 27] [] rfl rfl (by kernel_rfl) (by kernel_rfl) (by kernel_rfl) (by kernel_rfl) (by kernel_rfl) (by kernel_rfl) (by kernel_rfl) (fun _ _ _ h => h) (Or.inl ⟨by rfl, Or.inl ?hy44⟩) ?rest44
        case hy44 => (intro w' kk ss; (try dsimp only at ss); go_simp; first | done | with_reducible rfl)
        try simp only [Act.put, List.setIfInBounds_toArray, List.set_cons_zero, List.set_cons_succ]
        refine' Reg.wpG_take (i := 20) (oi := { dst := some 88, op := Op.move (Operand.tmp 87), type := 4, pos := "law.go:195", after := #[{ on := 19, ground := Ground.data }, { on := 18, ground := Ground.chain }], guard := none }) (v := _) [21, 22, 23, 24, 25, 26, 27] [] rfl rfl (by kernel_rfl) (by kernel_rfl) (by kernel_rfl) (by kernel_rfl) (by kernel_rfl) (by kernel_rfl) (by kernel_rfl) (fun _ _ _ h => h) (Or.inl ⟨by rfl, Or.inl ?hy45⟩) ?rest45
        case hy45 => (intro w' kk ss; (try dsimp only at ss); go_simp; first | done | with_reducible rfl)
        try simp only [Act.put, List.setIfInBounds_toArray, List.set_cons_zero, List.set_cons_succ]
        refine' Reg.wpG_take (i := 21) (oi := { dst := some 89, op := Op.move (Operand.tmp 9), type := 56, pos := "law.go:195", after := #[{ on := 20, ground := Ground.guard }], guard := some (20, true) }) (v := _) [25, 26, 27] [] rfl rfl (by kernel_rfl) (by kernel_rfl) (by kernel_rfl) (by kernel_rfl) (by kernel_rfl) (by kernel_rfl) (by kernel_rfl) (fun _ _ _ h => h) (Or.inl ⟨by rfl, Or.inl ?hy46⟩) ?rest46
        case hy46 => (intro w' kk ss; (try dsimp only at ss); go_simp; first | done | with_reducible rfl)
        try simp only [Act.put, List.setIfInBounds_toArray, List.set_cons_zero, List.set_cons_succ]
        refine' Reg.wpG_take (i := 22) (oi := { dst := some 90, op := Op.load 24 (Operand.tmp 5), type := 24, pos := "law.go:195", after := #[{ on := 20, ground := Ground.guard }], guard := some (20, true) }) (v := _) [23, 25, 26, 27] [] rfl rfl (by kernel_rfl) (by kernel_rfl) (by kernel_rfl) (by kernel_rfl) (by kernel_rfl) (by kernel_rfl) (by kernel_rfl) (fun _ _ _ h => h) (Or.inl ⟨by rfl, Or.inl ?hy47⟩) ?rest47
        case hy47 => (intro w' kk ss; (try dsimp only at ss); go_simp; first | done | with_reducible rfl)
        try simp only [Act.put, List.setIfInBounds_toArray, List.set_cons_zero, List.set_cons_succ]
        refine Reg.wpG_take (i := 23) (oi := { dst := some 91, op := Op.call { callee := Callee.value (Operand.func 12), args := #[Operand.tmp 90], argTypes := #[24] }, type := 30, pos := "law.go:195", after := #[{ on := 22, ground := Ground.data }, { on := 20, ground := Ground.chain }, { on := 20, ground := Ground.guard }], guard := some (20, true) }) (v := sv b2 (.slice a2 d2.length cap2)) [25, 26, 27] [] rfl rfl (by kernel_rfl) (by kernel_rfl) (by kernel_rfl) (by kernel_rfl) (by kernel_rfl) (by kernel_rfl) (by kernel_rfl) (fun _ _ _ h => h) (Or.inl ⟨by rfl, Or.inr ⟨12, #[sv b2 (.slice a2 d2.length cap2)], fun w' kk ss => ⟨?_, ?_⟩⟩⟩) ?_
        · (try dsimp only at ss); go_simp
        · exact (Law03.theirs_any a2 d2.length cap2 b2 w').mono fun e w'' h => ⟨h.1, h.2, hall.out _ (hE.trans ((Since.drew (Since.refl _)).trans (kk.trans h.2)))⟩
        try simp only [Act.put, List.setIfInBounds_toArray, List.set_cons_zero, List.set_cons_succ]
        refine' Reg.wpG_take (i := 24) (oi := { dst := some 92, op := Op.load 30 (Operand.tmp 7), type := 30, pos := "law.go:195", after := #[{ on := 20, ground := Ground.guard }], guard := some (20, true) }) (v := _) [25, 26, 27] [] rfl rfl (by kernel_rfl) (by kernel_rfl) (by kernel_rfl) (by kernel_rfl) (by kernel_rfl) (by kernel_rfl) (by kernel_rfl) (fun _ _ _ h => h) (Or.inl ⟨by rfl, Or.inl ?hy48⟩) ?rest48
        case hy48 => (intro w' kk ss; (try dsimp only at ss); go_simp; first | done | with_reducible rfl)
        try simp only [Act.put, List.setIfInBounds_toArray, List.set_cons_zero, List.set_cons_succ]
        refine Reg.wpG_take (i := 25) (oi := { dst := some 93, op := Op.call { callee := Callee.value (Operand.tmp 89), args := #[Operand.tmp 91, Operand.tmp 92], argTypes := #[30, 30] }, type := 4, pos := "law.go:195", after := #[{ on := 21, ground := Ground.data }, { on := 23, ground := Ground.data }, { on := 24, ground := Ground.data }, { on := 23, ground := Ground.chain }, { on := 20, ground := Ground.guard }], guard := some (20, true) }) (v := .bool true) [26, 27] [] rfl rfl (by kernel_rfl) (by kernel_rfl) (by kernel_rfl) (by kernel_rfl) (by kernel_rfl) (by kernel_rfl) (by kernel_rfl) (fun _ _ _ h => h) (Or.inl ⟨by rfl, Or.inr ⟨36, #[sv b2 (.slice a2 d2.length cap2), sv false (.slice A1 s1.length q1)], fun w' kk ss => ⟨?_, ?_⟩⟩⟩) ?_
        · (try dsimp only at ss); go_simp
        · exact (Law03.divides_at a2 A1 cap2 q1 b2 false d2 s1 w' (R2.out.since (hS0.trans (hS.trans (hE.trans ((Since.drew (Since.refl _)).trans kk))))) (r1.since (hE.trans ((Since.drew (Since.refl _)).trans kk))) M2.out LS.out D2.out).mono fun e w'' h => ⟨h.1, h.2, hall.out _ (hE.trans ((Since.drew (Since.refl _)).trans (kk.trans h.2)))⟩
        try simp only [Act.put, List.setIfInBounds_toArray, List.set_cons_zero, List.set_cons_succ]
        refine' Reg.wpG_take (i := 26) (oi := { dst := some 94, op := Op.unOp UnOp.not 4 (Operand.tmp 93), type := 4, pos := "law.go:195", after := #[{ on := 25, ground := Ground.data }, { on := 20, ground := Ground.guard }], guard := some (20, true) }) (v := _) [27] [] rfl rfl (by kernel_rfl) (by kernel_rfl) (by kernel_rfl) (by kernel_rfl) (by kernel_rfl) (by kernel_rfl) (by kernel_rfl) (fun _ _ _ h => h) (Or.inl ⟨by rfl, Or.inl ?hy49⟩) ?rest49
        case hy49 => (intro w' kk ss; (try dsimp only at ss); go_simp; first | done | with_reducible rfl)
        try simp only [Act.put, List.setIfInBounds_toArray, List.set_cons_zero, List.set_cons_succ]
        refine' Reg.wpG_take (i := 27) (oi := { dst := some 95, op := Op.pick (Operand.tmp 88) (Operand.tmp 94) (Operand.const (Value.bool false)), type := 4, pos := "law.go:195", after := #[{ on := 20, ground := Ground.data }, { on := 26, ground := Ground.data }], guard := none }) (v := _) [] [] rfl rfl (by kernel_rfl) (by kernel_rfl) (by kernel_rfl) (by kernel_rfl) (by kernel_rfl) (by kernel_rfl) (by kernel_rfl) (fun _ _ _ h => h) (Or.inl ⟨by rfl, Or.inl ?hy50⟩) ?rest50
        case hy50 => (intro w' kk ss; (try dsimp only at ss); go_simp; first | done | with_reducible rfl)
        try simp only [Act.put, List.setIfInBounds_toArray, List.set_cons_zero, List.set_cons_succ]
        refine Reg.wpG_done (by kernel_rfl) (fun we ke se => ?_) _
        refine NoPanic.normal ?_
        have hE := hE.trans ((Since.drew (Since.refl _)).trans ke)
        clear ke
        go_wp2_with fail
        go_ret
        exact ⟨rfl, hS0.trans (hS.trans hE)⟩
      · have D1 := Lib.hid (D1.trans (decide_eq_false x1))
        clear x0 x1 hd hz D2
        refine wp_region_noPanic ?_
        refine Reg.wp_region_G (S := fun W => (W.cell? ⟨w.heap.size, 0, none⟩ = some (.bool b0) ∧ W.cell? ⟨w.heap.size, 1, none⟩ = some (.slice a0 d0.length cap0) ∧ W.cell? ⟨w.heap.size + 1, 0, none⟩ = some (.bool b1) ∧ W.cell? ⟨w.heap.size + 1, 1, none⟩ = some (.slice a1 d1.length cap1) ∧ W.cell? ⟨w.heap.size + 1 + 1, 0, none⟩ = some (.bool b2) ∧ W.cell? ⟨w.heap.size + 1 + 1, 1, none⟩ = some (.slice a2 d2.length cap2)) ∧ (W.cell? ⟨c0, 0, none⟩ = some (.bool false) ∧ W.cell? ⟨c0, 1, none⟩ = some (.slice A1 s1.length q1))) (fun j => [].contains j) (by kernel_rfl) ?_ ?_
        · exact hall.out _ (Since.drew hE)
        refine' Reg.wpG_take (i := 0) (oi := { dst := some 68, op := Op.fieldAddr 24 (Operand.tmp 5) 1, type := 0, pos := "law.go:195", after := #[], guard := none }) (v := _) [1, 2, 3, 4, 5, 6, 7, 8, 9, 10, 11, 12, 13, 14, 15, 16, 17, 18, 19, 20, 21, 22, 23, 24, 25, 26, 27] [] rfl rfl (by kernel_rfl) (by kernel_rfl) (by kernel_rfl) (by kernel_rfl) (by kernel_rfl) (by kernel_rfl) (by kernel_rfl) (fun _ _ _ h => h) (Or.inl ⟨by rfl, Or.inl ?hy51⟩) ?rest51
        case hy51 => (intro w' kk ss; (try dsimp only at ss); go_simp; first | done | with_reducible rfl)
        try simp only [Act.put, List.setIfInBounds_toArray, List.set_cons_zero, List.set_cons_succ]
        refine' Reg.wpG_take (i := 1) (oi := { dst := some 69, op := Op.load 22 (Operand.tmp 68), type := 22, pos := "law.go:195", after := #[{ on := 0, ground := Ground.data }], guard := none }) (v := _) [2, 3, 4, 5, 6, 7, 8, 9, 10, 11, 12, 13, 14, 15, 16, 17, 18, 19, 20, 21, 22, 23, 24, 25, 26, 27] [] rfl rfl (by kernel_rfl) (by kernel_rfl) (by kernel_rfl) (by kernel_rfl) (by kernel_rfl) (by kernel_rfl) (by kernel_rfl) (fun _ _ _ h => h) (Or.inl ⟨by rfl, Or.inl ?hy52⟩) ?rest52
        case hy52 => (intro w' kk ss; (try dsimp only at ss); go_simp; first | done | with_reducible rfl)
        try simp only [Act.put, List.setIfInBounds_toArray, List.set_cons_zero, List.set_cons_succ]
        refine' Reg.wpG_take (i := 2) (oi := { dst := some 70, op := Op.call { callee := Callee.builtin Builtin.len, args := #[Operand.tmp 69], argTypes := #[22] }, type := 3, pos := "law.go:195", after := #[{ on := 1, ground := Ground.data }], guard := none }) (v := _) [3, 4, 5, 6, 7, 8, 9, 10, 11, 12, 13, 14, 15, 16, 17, 18, 19, 20, 21, 22, 23, 24, 25, 26, 27] [] rfl rfl (by kernel_rfl) (by kernel_rfl) (by kernel_rfl) (by kernel_rfl) (by kernel_rfl) (by kernel_rfl) (by kernel_rfl) (fun _ _ _ h => h) (Or.inl ⟨by rfl, Or.inl ?hy53⟩) ?rest53
        case hy53 => (intro w' kk ss; (try dsimp only at ss); go_simp; first | done | with_reducible rfl)
        try simp only [Act.put, List.setIfInBounds_toArray, List.set_cons_zero, List.set_cons_succ]
        refine' Reg.wpG_take (i := 3) (oi := { dst := some 71, op := Op.binOp BinOp.gtr 3 (Operand.tmp 70) (Operand.const (Value.int IntKind.i64 0)) 3, type := 4, pos := "law.go:195", after := #[{ on := 2, ground := Ground.data }], guard := none }) (v := _) [4, 5, 6, 7, 8, 9, 10, 11, 12, 13, 14, 15, 16, 17, 18, 19, 20, 21, 22, 23, 24, 25, 26, 27] [] rfl rfl (by kernel_rfl) (by kernel_rfl) (by kernel_rfl) (by kernel_rfl) (by kernel_rfl) (by kernel_rfl) (by kernel_rfl) (fun _ _ _ h => h) (Or.inl ⟨by rfl, Or.inl ?hy54⟩) ?rest54
        case hy54 => (intro w' kk ss; (try dsimp only at ss); go_simp; first | done | with_reducible rfl)
        try simp only [Act.put, List.setIfInBounds_toArray, List.set_cons_zero, List.set_cons_succ]
        refine' Reg.wpG_take (i := 4) (oi := { dst := some 72, op := Op.move (Operand.tmp 71), type := 4, pos := "law.go:195", after := #[{ on := 3, ground := Ground.data }], guard := none }) (v := _) [5, 6, 7, 8, 9, 10, 11, 12, 13, 14, 15, 16, 17, 18, 19, 20, 21, 22, 23, 24, 25, 26, 27] [] rfl rfl (by kernel_rfl) (by kernel_rfl) (by kernel_rfl) (by kernel_rfl) (by kernel_rfl) (by kernel_rfl) (by kernel_rfl) (fun _ _ _ h => h) (Or.inl ⟨by rfl, Or.inl ?hy55⟩) ?rest55
        case hy55 => (intro w' kk ss; (try dsimp only at ss); go_simp; first | done | with_reducible rfl)
        try simp only [Act.put, List.setIfInBounds_toArray, List.set_cons_zero, List.set_cons_succ]
        refine' Reg.wpG_take (i := 5) (oi := { dst := some 73, op := Op.move (Operand.tmp 9), type := 56, pos := "law.go:195", after := #[{ on := 4, ground := Ground.guard }], guard := some (4, true) }) (v := _) [10, 11, 12, 13, 14, 15, 16, 17, 18, 19, 20, 21, 22, 23, 24, 25, 26, 27] [] rfl rfl (by kernel_rfl) (by kernel_rfl) (by kernel_rfl) (by kernel_rfl) (by kernel_rfl) (by kernel_rfl) (by kernel_rfl) (fun _ _ _ h => h) (Or.inl ⟨by rfl, Or.inl ?hy56⟩) ?rest56
        case hy56 => (intro w' kk ss; (try dsimp only at ss); go_simp; first | done | with_reducible rfl)
        try simp only [Act.put, List.setIfInBounds_toArray, List.set_cons_zero, List.set_cons_succ]
        refine' Reg.wpG_take (i := 6) (oi := { dst := some 74, op := Op.load 24 (Operand.tmp 5), type := 24, pos := "law.go:195", after := #[{ on := 4, ground := Ground.guard }], guard := some (4, true) }) (v := _) [7, 9, 10, 11, 12, 13, 14, 15, 16, 17, 18, 19, 20, 21, 22, 23, 24, 25, 26, 27] [] rfl rfl (by kernel_rfl) (by kernel_rfl) (by kernel_rfl) (by kernel_rfl) (by kernel_rfl) (by kernel_rfl) (by kernel_rfl) (fun _ _ _ h => h) (Or.inl ⟨by rfl, Or.inl ?hy57⟩) ?rest57
        case hy57 => (intro w' kk ss; (try dsimp only at ss); go_simp; first | done | with_reducible rfl)
        try simp only [Act.put, List.setIfInBounds_toArray, List.set_cons_zero, List.set_cons_succ]
        refine Reg.wpG_take (i := 7) (oi := { dst := some 75, op := Op.call { callee := Callee.value (Operand.func 12), args := #[Operand.tmp 74], argTypes := #[24] }, type := 30, pos := "law.go:195", after := #[{ on := 6, ground := Ground.data }, { on := 4, ground := Ground.chain }, { on := 4, ground := Ground.guard }], guard := some (4, true) }) (v := sv b2 (.slice a2 d2.length cap2)) [9, 10, 11, 12, 13, 14, 15, 16, 17, 18, 19, 20, 21, 22, 23, 24, 25, 26, 27] [] rfl rfl (by kernel_rfl) (by kernel_rfl) (by kernel_rfl) (by kernel_rfl) (by kernel_rfl) (by kernel_rfl) (by kernel_rfl) (fun _ _ _ h => h) (Or.inl ⟨by rfl, Or.inr ⟨12, #[sv b2 (.slice a2 d2.length cap2)], fun w' kk ss => ⟨?_, ?_⟩⟩⟩) ?_
        · (try dsimp only at ss); go_simp
        · exact (Law03.theirs_any a2 d2.length cap2 b2 w').mono fun e w'' h => ⟨h.1, h.2, hall.out _ (hE.trans ((Since.drew (Since.refl _)).trans (kk.trans h.2)))⟩
        try simp only [Act.put, List.setIfInBounds_toArray, List.set_cons_zero, List.set_cons_succ]
        refine' Reg.wpG_take (i := 8) (oi := { dst := some 76, op := Op.load 24 (Operand.tmp 3), type := 24, pos := "law.go:195", after := #[{ on := 4, ground := Ground.guard }], guard := some (4, true) }) (v := _) [9, 10, 11, 12, 13, 14, 15, 16, 17, 18, 19, 20, 21, 22, 23, 24, 25, 26, 27] [] rfl rfl (by kernel_rfl) (by kernel_rfl) (by kernel_rfl) (by kernel_rfl) (by kernel_rfl) (by kernel_rfl) (by kernel_rfl) (fun _ _ _ h => h) (Or.inl ⟨by rfl, Or.inl ?hy58⟩) ?rest58
        case hy58 => (intro w' kk ss; (try dsimp only at ss); go_simp; first | done | with_reducible rfl)
        try simp only [Act.put, List.setIfInBounds_toArray, List.set_cons_zero, List.set_cons_succ]
        refine Reg.wpG_take (i := 9) (oi := { dst := some 77, op := Op.call { callee := Callee.value (Operand.func 12), args := #[Operand.tmp 76], argTypes := #[24] }, type := 30, pos := "law.go:195", after := #[{ on := 8, ground := Ground.data }, { on := 7, ground := Ground.chain }, { on := 4, ground := Ground.guard }], guard := some (4, true) }) (v := sv b0 (.slice a0 d0.length cap0)) [10, 11, 12, 13, 14, 15, 16, 17, 18, 19, 20, 21, 22, 23, 24, 25, 26, 27] [] rfl rfl (by kernel_rfl) (by kernel_rfl) (by kernel_rfl) (by kernel_rfl) (by kernel_rfl) (by kernel_rfl) (by kernel_rfl) (fun _ _ _ h => h) (Or.inl ⟨by rfl, Or.inr ⟨12, #[sv b0 (.slice a0 d0.length cap0)], fun w' kk ss => ⟨?_, ?_⟩⟩⟩) ?_
        · (try dsimp only at ss); go_simp
        · exact (Law03.theirs_any a0 d0.length cap0 b0 w').mono fun e w'' h => ⟨h.1, h.2, hall.out _ (hE.trans ((Since.drew (Since.refl _)).trans (kk.trans h.2)))⟩
        try simp only [Act.put, List.setIfInBounds_toArray, List.set_cons_zero, List.set_cons_succ]
        refine Reg.wpG_take (i := 10) (oi := { dst := some 78, op := Op.call { callee := Callee.value (Operand.tmp 73), args := #[Operand.tmp 75, Operand.tmp 77], argTypes := #[30, 30] }, type := 4, pos := "law.go:195", after := #[{ on := 5, ground := Ground.data }, { on := 7, ground := Ground.data }, { on := 9, ground := Ground.data }, { on := 9, ground := Ground.chain }, { on := 4, ground := Ground.guard }], guard := some (4, true) }) (v := .bool true) [11, 12, 13, 14, 15, 16, 17, 18, 19, 20, 21, 22, 23, 24, 25, 26, 27] [] rfl rfl (by kernel_rfl) (by kernel_rfl) (by kernel_rfl) (by kernel_rfl) (by kernel_rfl) (by kernel_rfl) (by kernel_rfl) (fun _ _ _ h => h) (Or.inl ⟨by rfl, Or.inr ⟨36, #[sv b2 (.slice a2 d2.length cap2), sv b0 (.slice a0 d0.length cap0)], fun w' kk ss => ⟨?_, ?_⟩⟩⟩) ?_
        · (try dsimp only at ss); go_simp
        · exact (Law03.divides_at a2 a0 cap2 cap0 b2 b0 d2 d0 w' (R2.out.since (hS0.trans (hS.trans (hE.trans ((Since.drew (Since.refl _)).trans kk))))) (R0.out.since (hS0.trans (hS.trans (hE.trans ((Since.drew (Since.refl _)).trans kk))))) M2.out M0.out D0.out).mono fun e w'' h => ⟨h.1, h.2, hall.out _ (hE.trans ((Since.drew (Since.refl _)).trans (kk.trans h.2)))⟩
        try simp only [Act.put, List.setIfInBounds_toArray, List.set_cons_zero, List.set_cons_succ]
        refine' Reg.wpG_take (i := 11) (oi := { dst := some 79, op := Op.pick (Operand.tmp 72) (Operand.tmp 78) (Operand.const (Value.bool false)), type := 4, pos := "law.go:195", after := #[{ on := 4, ground := Ground.data }, { on := 10, ground := Ground.data }], guard := none }) (v := _) [12, 13, 14, 15, 16, 17, 18, 19, 20, 21, 22, 23, 24, 25, 26, 27] [] rfl rfl (by kernel_rfl) (by kernel_rfl) (by kernel_rfl) (by kernel_rfl) (by kernel_rfl) (by kernel_rfl) (by kernel_rfl) (fun _ _ _ h => h) (Or.inl ⟨by rfl, Or.inl ?hy59⟩) ?rest59
        case hy59 => (intro w' kk ss; (try dsimp only at ss); go_simp; first | done | with_reducible rfl)
        try simp only [Act.put, List.setIfInBounds_toArray, List.set_cons_zero, List.set_cons_succ]
        refine' Reg.wpG_take (i := 12) (oi := { dst := some 80, op := Op.move (Operand.tmp 79), type := 4, pos := "law.go:195", after := #[{ on := 11, ground := Ground.data }, { on := 10, ground := Ground.chain }], guard := none }) (v := _) [13, 14, 15, 16, 17, 18, 19, 20, 21, 22, 23, 24, 25, 26, 27] [] rfl rfl (by kernel_rfl) (by kernel_rfl) (by kernel_rfl) (by kernel_rfl) (by kernel_rfl) (by kernel_rfl) (by kernel_rfl) (fun _ _ _ h => h) (Or.inl ⟨by rfl, Or.inl ?hy60⟩) ?rest60
        case hy60 => (intro w' kk ss; (try dsimp only at ss); go_simp; first | done | with_reducible rfl)
        try simp only [Act.put, List.setIfInBounds_toArray, List.set_cons_zero, List.set_cons_succ]
        refine' Reg.wpG_take (i := 13) (oi := { dst := some 81, op := Op.move (Operand.tmp 9), type := 56, pos := "law.go:195", after := #[{ on := 12, ground := Ground.guard }], guard := some (12, true) }) (v := _) [18, 19, 20, 21, 22, 23, 24, 25, 26, 27] [] rfl rfl (by kernel_rfl) (by kernel_rfl) (by kernel_rfl) (by kernel_rfl) (by kernel_rfl) (by kernel_rfl) (by kernel_rfl) (fun _ _ _ h => h) (Or.inl ⟨by rfl, Or.inl ?hy61⟩) ?rest61
        case hy61 => (intro w' kk ss; (try dsimp only at ss); go_simp; first | done | with_reducible rfl)
        try simp only [Act.put, List.setIfInBounds_toArray, List.set_cons_zero, List.set_cons_succ]
        refine' Reg.wpG_take (i := 14) (oi := { dst := some 82, op := Op.load 24 (Operand.tmp 5), type := 24, pos := "law.go:195", after := #[{ on := 12, ground := Ground.guard }], guard := some (12, true) }) (v := _) [15, 17, 18, 19, 20, 21, 22, 23, 24, 25, 26, 27] [] rfl rfl (by kernel_rfl) (by kernel_rfl) (by kernel_rfl) (by kernel_rfl) (by kernel_rfl) (by kernel_rfl) (by kernel_rfl) (fun _ _ _ h => h) (Or.inl ⟨by rfl, Or.inl ?hy62⟩) ?rest62
        case hy62 => (intro w' kk ss; (try dsimp only at ss); go_simp; first | done | with_reducible rfl)
        try simp only [Act.put, List.setIfInBounds_toArray, List.set_cons_zero, List.set_cons_succ]
        refine Reg.wpG_take (i := 15) (oi := { dst := some 83, op := Op.call { callee := Callee.value (Operand.func 12), args := #[Operand.tmp 82], argTypes := #[24] }, type := 30, pos := "law.go:195", after := #[{ on := 14, ground := Ground.data }, { on := 12, ground := Ground.chain }, { on := 12, ground := Ground.guard }], guard := some (12, true) }) (v := sv b2 (.slice a2 d2.length cap2)) [17, 18, 19, 20, 21, 22, 23, 24, 25, 26, 27] [] rfl rfl (by kernel_rfl) (by kernel_rfl) (by kernel_rfl) (by kernel_rfl) (by kernel_rfl) (by kernel_rfl) (by kernel_rfl) (fun _ _ _ h => h) (Or.inl ⟨by rfl, Or.inr ⟨12, #[sv b2 (.slice a2 d2.length cap2)], fun w' kk ss => ⟨?_, ?_⟩⟩⟩) ?_
        · (try dsimp only at ss); go_simp
        · exact (Law03.theirs_any a2 d2.length cap2 b2 w').mono fun e w'' h => ⟨h.1, h.2, hall.out _ (hE.trans ((Since.drew (Since.refl _)).trans (kk.trans h.2)))⟩
        try simp only [Act.put, List.setIfInBounds_toArray, List.set_cons_zero, List.set_cons_succ]
        refine' Reg.wpG_take (i := 16) (oi := { dst := some 84, op := Op.load 24 (Operand.tmp 4), type := 24, pos := "law.go:195", after := #[{ on := 12, ground := Ground.guard }], guard := some (12, true) }) (v := _) [17, 18, 19, 20, 21, 22, 23, 24, 25, 26, 27] [] rfl rfl (by kernel_rfl) (by kernel_rfl) (by kernel_rfl) (by kernel_rfl) (by kernel_rfl) (by kernel_rfl) (by kernel_rfl) (fun _ _ _ h => h) (Or.inl ⟨by rfl, Or.inl ?hy63⟩) ?rest63
        case hy63 => (intro w' kk ss; (try dsimp only at ss); go_simp; first | done | with_reducible rfl)
        try simp only [Act.put, List.setIfInBounds_toArray, List.set_cons_zero, List.set_cons_succ]
        refine Reg.wpG_take (i := 17) (oi := { dst := some 85, op := Op.call { callee := Callee.value (Operand.func 12), args := #[Operand.tmp 84], argTypes := #[24] }, type := 30, pos := "law.go:195", after := #[{ on := 16, ground := Ground.data }, { on := 15, ground := Ground.chain }, { on := 12, ground := Ground.guard }], guard := some (12, true) }) (v := sv b1 (.slice a1 d1.length cap1)) [18, 19, 20, 21, 22, 23, 24, 25, 26, 27] [] rfl rfl (by kernel_rfl) (by kernel_rfl) (by kernel_rfl) (by kernel_rfl) (by kernel_rfl) (by kernel_rfl) (by kernel_rfl) (fun _ _ _ h => h) (Or.inl ⟨by rfl, Or.inr ⟨12, #[sv b1 (.slice a1 d1.length cap1)], fun w' kk ss => ⟨?_, ?_⟩⟩⟩) ?_
        · (try dsimp only at ss); go_simp
        · exact (Law03.theirs_any a1 d1.length cap1 b1 w').mono fun e w'' h => ⟨h.1, h.2, hall.out _ (hE.trans ((Since.drew (Since.refl _)).trans (kk.trans h.2)))⟩
        try simp only [Act.put, List.setIfInBounds_toArray, List.set_cons_zero, List.set_cons_succ]
        refine Reg.wpG_take (i := 18) (oi := { dst := some 86, op := Op.call { callee := Callee.value (Operand.tmp 81), args := #[Operand.tmp 83, Operand.tmp 85], argTypes := #[30, 30] }, type := 4, pos := "law.go:195", after := #[{ on := 13, ground := Ground.data }, { on := 15, ground := Ground.data }, { on := 17, ground := Ground.data }, { on := 17, ground := Ground.chain }, { on := 12, ground := Ground.guard }], guard := some (12, true) }) (v := .bool false) [19, 20, 21, 22, 23, 24, 25, 26, 27] [] rfl rfl (by kernel_rfl) (by kernel_rfl) (by kernel_rfl) (by kernel_rfl) (by kernel_rfl) (by kernel_rfl) (by kernel_rfl) (fun _ _ _ h => h) (Or.inl ⟨by rfl, Or.inr ⟨36, #[sv b2 (.slice a2 d2.length cap2), sv b1 (.slice a1 d1.length cap1)], fun w' kk ss => ⟨?_, ?_⟩⟩⟩) ?_
        · (try dsimp only at ss); go_simp
        · exact (Law03.divides_at a2 a1 cap2 cap1 b2 b1 d2 d1 w' (R2.out.since (hS0.trans (hS.trans (hE.trans ((Since.drew (Since.refl _)).trans kk))))) (R1.out.since (hS0.trans (hS.trans (hE.trans ((Since.drew (Since.refl _)).trans kk))))) M2.out M1.out D1.out).mono fun e w'' h => ⟨h.1, h.2, hall.out _ (hE.trans ((Since.drew (Since.refl _)).trans (kk.trans h.2)))⟩
        try simp only [Act.put, List.setIfInBounds_toArray, List.set_cons_zero, List.set_cons_succ]
        refine' Reg.wpG_take (i := 19) (oi := { dst := some 87, op := Op.pick (Operand.tmp 80) (Operand.tmp 86) (Operand.const (Value.bool false)), type := 4, pos := "law.go:195", after := #[{ on := 12, ground := Ground.data }, { on := 18, ground := Ground.data }], guard := none }) (v := _) [20, 21, 22, 23, 24, 25, 26, 27] [] rfl rfl (by kernel_rfl) (by kernel_rfl) (by kernel_rfl) (by kernel_rfl) (by kernel_rfl) (by kernel_rfl) (by kernel_rfl) (fun _ _ _ h => h) (Or.inl ⟨by rfl, Or.inl ?hy64⟩) ?rest64
        case hy64 => (intro w' kk ss; (try dsimp only at ss); go_simp; first | done | with_reducible rfl)
        try simp only [Act.put, List.setIfInBounds_toArray, List.set_cons_zero, List.set_cons_succ]
        refine' Reg.wpG_take (i := 20) (oi := { dst := some 88, op := Op.move (Operand.tmp 87), type := 4, pos := "law.go:195", after := #[{ on := 19, ground := Ground.data }, { on := 18, ground := Ground.chain }], guard := none }) (v := _) [21, 22, 23, 24, 25, 26, 27] [] rfl rfl (by kernel_rfl) (by kernel_rfl) (by kernel_rfl) (by kernel_rfl) (by kernel_rfl) (by kernel_rfl) (by kernel_rfl) (fun _ _ _ h => h) (Or.inl ⟨by rfl, Or.inl ?hy65⟩) ?rest65
        case hy65 => (intro w' kk ss; (try dsimp only at ss); go_simp; first | done | with_reducible rfl)
        try simp only [Act.put, List.setIfInBounds_toArray, List.set_cons_zero, List.set_cons_succ]
        refine Reg.wpG_take (i := 21) (oi := { dst := some 89, op := Op.move (Operand.tmp 9), type := 56, pos := "law.go:195", after := #[{ on := 20, ground := Ground.guard }], guard := some (20, true) }) (v := undef) [25, 26, 27] [] rfl rfl (by kernel_rfl) (by kernel_rfl) (by kernel_rfl) (by kernel_rfl) (by kernel_rfl) (by kernel_rfl) (by kernel_rfl) (fun _ _ _ h => h) (Or.inr ⟨by rfl, rfl⟩) ?_
        try simp only [Act.put, List.setIfInBounds_toArray, List.set_cons_zero, List.set_cons_succ]
        refine Reg.wpG_take (i := 22) (oi := { dst := some 90, op := Op.load 24 (Operand.tmp 5), type := 24, pos := "law.go:195", after := #[{ on := 20, ground := Ground.guard }], guard := some (20, true) }) (v := undef) [23, 25, 26, 27] [] rfl rfl (by kernel_rfl) (by kernel_rfl) (by kernel_rfl) (by kernel_rfl) (by kernel_rfl) (by kernel_rfl) (by kernel_rfl) (fun _ _ _ h => h) (Or.inr ⟨by rfl, rfl⟩) ?_
        try simp only [Act.put, List.setIfInBounds_toArray, List.set_cons_zero, List.set_cons_succ]
        refine Reg.wpG_take (i := 23) (oi := { dst := some 91, op := Op.call { callee := Callee.value (Operand.func 12), args := #[Operand.tmp 90], argTypes := #[24] }, type := 30, pos := "law.go:195", after := #[{ on := 22, ground := Ground.data }, { on := 20, ground := Ground.chain }, { on := 20, ground := Ground.guard }], guard := some (20, true) }) (v := undef) [25, 26, 27] [] rfl rfl (by kernel_rfl) (by kernel_rfl) (by kernel_rfl) (by kernel_rfl) (by kernel_rfl) (by kernel_rfl) (by kernel_rfl) (fun _ _ _ h => h) (Or.inr ⟨by rfl, rfl⟩) ?_
        try simp only [Act.put, List.setIfInBounds_toArray, List.set_cons_zero, List.set_cons_succ]
        refine Reg.wpG_take (i := 24) (oi := { dst := some 92, op := Op.load 30 (Operand.tmp 7), type := 30, pos := "law.go:195", after := #[{ on := 20, ground := Ground.guard }], guard := some (20, true) }) (v := undef) [25, 26, 27] [] rfl rfl (by kernel_rfl) (by kernel_rfl) (by kernel_rfl) (by kernel_rfl) (by kernel_rfl) (by kernel_rfl) (by kernel_rfl) (fun _ _ _ h => h) (Or.inr ⟨by rfl, rfl⟩) ?_
        try simp only [Act.put, List.setIfInBounds_toArray, List.set_cons_zero, List.set_cons_succ]
        refine Reg.wpG_take (i := 25) (oi := { dst := some 93, op := Op.call { callee := Callee.value (Operand.tmp 89), args := #[Operand.tmp 91, Operand.tmp 92], argTypes := #[30, 30] }, type := 4, pos := "law.go:195", after := #[{ on := 21, ground := Ground.data }, { on := 23, ground := Ground.data }, { on := 24, ground := Ground.data }, { on := 23, ground := Ground.chain }, { on := 20, ground := Ground.guard }], guard := some (20, true) }) (v := undef) [26, 27] [] rfl rfl (by kernel_rfl) (by kernel_rfl) (by kernel_rfl) (by kernel_rfl) (by kernel_rfl) (by kernel_rfl) (by kernel_rfl) (fun _ _ _ h => h) (Or.inr ⟨by rfl, rfl⟩) ?_
        try simp only [Act.put, List.setIfInBounds_toArray, List.set_cons_zero, List.set_cons_succ]
        refine Reg.wpG_take (i := 26) (oi := { dst := some 94, op := Op.unOp UnOp.not 4 (Operand.tmp 93), type := 4, pos := "law.go:195", after := #[{ on := 25, ground := Ground.data }, { on := 20, ground := Ground.guard }], guard := some (20, true) }) (v := undef) [27] [] rfl rfl (by kernel_rfl) (by kernel_rfl) (by kernel_rfl) (by kernel_rfl) (by kernel_rfl) (by kernel_rfl) (by kernel_rfl) (fun _ _ _ h => h) (Or.inr ⟨by rfl, rfl⟩) ?_
        try simp only [Act.put, List.setIfInBounds_toArray, List.set_cons_zero, List.set_cons_succ]
        refine' Reg.wpG_take (i := 27) (oi := { dst := some 95, op := Op.pick (Operand.tmp 88) (Operand.tmp 94) (Operand.const (Value.bool false)), type := 4, pos := "law.go:195", after := #[{ on := 20, ground := Ground.data }, { on := 26, ground := Ground.data }], guard := none }) (v := _) [] [] rfl rfl (by kernel_rfl) (by kernel_rfl) (by kernel_rfl) (by kernel_rfl) (by kernel_rfl) (by kernel_rfl) (by kernel_rfl) (fun _ _ _ h => h) (Or.inl ⟨by rfl, Or.inl ?hy66⟩) ?rest66
        case hy66 => (intro w' kk ss; (try dsimp only at ss); go_simp; first | done | with_reducible rfl)
        try simp only [Act.put, List.setIfInBounds_toArray, List.set_cons_zero, List.set_cons_succ]
        refine Reg.wpG_done (by kernel_rfl) (fun we ke se => ?_) _
        refine NoPanic.normal ?_
        have hE := hE.trans ((Since.drew (Since.refl _)).trans ke)
        clear ke
        go_wp2_with fail
        go_ret
        exact ⟨rfl, hS0.trans (hS.trans hE)⟩
    · have D0 := Lib.hid (D0.trans (decide_eq_false x0))
      clear x0 hd hz D1 D2
      refine wp_region_noPanic ?_
      refine Reg.wp_region_G (S := fun W => (W.cell? ⟨w.heap.size, 0, none⟩ = some (.bool b0) ∧ W.cell? ⟨w.heap.size, 1, none⟩ = some (.slice a0 d0.length cap0) ∧ W.cell? ⟨w.heap.size + 1, 0, none⟩ = some (.bool b1) ∧ W.cell? ⟨w.heap.size + 1, 1, none⟩ = some (.slice a1 d1.length cap1) ∧ W.cell? ⟨w.heap.size + 1 + 1, 0, none⟩ = some (.bool b2) ∧ W.cell? ⟨w.heap.size + 1 + 1, 1, none⟩ = some (.slice a2 d2.length cap2)) ∧ (W.cell? ⟨c0, 0, none⟩ = some (.bool false) ∧ W.cell? ⟨c0, 1, none⟩ = some (.slice A1 s1.length q1))) (fun j => [].contains j) (by kernel_rfl) ?_ ?_
      · exact hall.out _ (Since.drew hE)
      refine' Reg.wpG_take (i := 0) (oi := { dst := some 68, op := Op.fieldAddr 24 (Operand.tmp 5) 1, type := 0, pos := "law.go:195", after := #[], guard := none }) (v := _) [1, 2, 3, 4, 5, 6, 7, 8, 9, 10, 11, 12, 13, 14, 15, 16, 17, 18, 19, 20, 21, 22, 23, 24, 25, 26, 27] [] rfl rfl (by kernel_rfl) (by kernel_rfl) (by kernel_rfl) (by kernel_rfl) (by kernel_rfl) (by kernel_rfl) (by kernel_rfl) (fun _ _ _ h => h) (Or.inl ⟨by rfl, Or.inl ?hy67⟩) ?rest67
      case hy67 => (intro w' kk ss; (try dsimp only at ss); go_simp; first | done | with_reducible rfl)
      try simp only [Act.put, List.setIfInBounds_toArray, List.set_cons_zero, List.set_cons_succ]
      refine' Reg.wpG_take (i := 1) (oi := { dst := some 69, op := Op.load 22 (Operand.tmp 68), type := 22, pos := "law.go:195", after := #[{ on := 0, ground := Ground.data }], guard := none }) (v := _) [2, 3, 4, 5, 6, 7, 8, 9, 10, 11, 12, 13, 14, 15, 16, 17, 18, 19, 20, 21, 22, 23, 24, 25, 26, 27] [] rfl rfl (by kernel_rfl) (by kernel_rfl) (by kernel_rfl) (by kernel_rfl) (by kernel_rfl) (by kernel_rfl) (by kernel_rfl) (fun _ _ _ h => h) (Or.inl ⟨by rfl, Or.inl ?hy68⟩) ?rest68
      case hy68 => (intro w' kk ss; (try dsimp only at ss); go_simp; first | done | with_reducible rfl)
      try simp only [Act.put, List.setIfInBounds_toArray, List.set_cons_zero, List.set_cons_succ]
      refine' Reg.wpG_take (i := 2) (oi := { dst := some 70, op := Op.call { callee := Callee.builtin Builtin.len, args := #[Operand.tmp 69], argTypes := #[22] }, type := 3, pos := "law.go:195", after := #[{ on := 1, ground := Ground.data }], guard := none }) (v := _) [3, 4, 5, 6, 7, 8, 9, 10, 11, 12, 13, 14, 15, 16, 17, 18, 19, 20, 21, 22, 23, 24, 25, 26, 27] [] rfl rfl (by kernel_rfl) (by kernel_rfl) (by kernel_rfl) (by kernel_rfl) (by kernel_rfl) (by kernel_rfl) (by kernel_rfl) (fun _ _ _ h => h) (Or.inl ⟨by rfl, Or.inl ?hy69⟩) ?rest69
      case hy69 => (intro w' kk ss; (try dsimp only at ss); go_simp; first | done | with_reducible rfl)
      try simp only [Act.put, List.setIfInBounds_toArray, List.set_cons_zero, List.set_cons_succ]
      refine' Reg.wpG_take (i := 3) (oi := { dst := some 71, op := Op.binOp BinOp.gtr 3 (Operand.tmp 70) (Operand.const (Value.int IntKind.i64 0)) 3, type := 4, pos := "law.go:195", after := #[{ on := 2, ground := Ground.data }], guard := none }) (v := _) [4, 5, 6, 7, 8, 9, 10, 11, 12, 13, 14, 15, 16, 17, 18, 19, 20, 21, 22, 23, 24, 25, 26, 27] [] rfl rfl (by kernel_rfl) (by kernel_rfl) (by kernel_rfl) (by kernel_rfl) (by kernel_rfl) (by kernel_rfl) (by kernel_rfl) (fun _ _ _ h => h) (Or.inl ⟨by rfl, Or.inl ?hy70⟩) ?rest70
      case hy70 => (intro w' kk ss; (try dsimp only at ss); go_simp; first | done | with_reducible rfl)
      try simp only [Act.put, List.setIfInBounds_toArray, List.set_cons_zero, List.set_cons_succ]
      refine' Reg.wpG_take (i := 4) (oi := { dst := some 72, op := Op.move (Operand.tmp 71), type := 4, pos := "law.go:195", after := #[{ on := 3, ground := Ground.data }], guard := none }) (v := _) [5, 6, 7, 8, 9, 10, 11, 12, 13, 14, 15, 16, 17, 18, 19, 20, 21, 22, 23, 24, 25, 26, 27] [] rfl rfl (by kernel_rfl) (by kernel_rfl) (by kernel_rfl) (by kernel_rfl) (by kernel_rfl) (by kernel_rfl) (by kernel_rfl) (fun _ _ _ h => h) (Or.inl ⟨by rfl, Or.inl ?hy71⟩) ?rest71
      case hy71 => (intro w' kk ss; (try dsimp only at ss); go_simp; first | done | with_reducible rfl)
      try simp only [Act.put, List.setIfInBounds_toArray, List.set_cons_zero, List.set_cons_succ]
      refine' Reg.wpG_take (i := 5) (oi := { dst := some 73, op := Op.move (Operand.tmp 9), type := 56, pos := "law.go:195", after := #[{ on := 4, ground := Ground.guard }], guard := some (4, true) }) (v := _) [10, 11, 12, 13, 14, 15, 16, 17, 18, 19, 20, 21, 22, 23, 24, 25, 26, 27] [] rfl rfl (by kernel_rfl) (by kernel_rfl) (by kernel_rfl) (by kernel_rfl) (by kernel_rfl) (by kernel_rfl) (by kernel_rfl) (fun _ _ _ h => h) (Or.inl ⟨by rfl, Or.inl ?hy72⟩) ?rest72
      case hy72 => (intro w' kk ss; (try dsimp only at ss); go_simp; first | done | with_reducible rfl)
      try simp only [Act.put, List.setIfInBounds_toArray, List.set_cons_zero, List.set_cons_succ]
      refine' Reg.wpG_take (i := 6) (oi := { dst := some 74, op := Op.load 24 (Operand.tmp 5), type := 24, pos := "law.go:195", after := #[{ on := 4, ground := Ground.guard }], guard := some (4, true) }) (v := _) [7, 9, 10, 11, 12, 13, 14, 15, 16, 17, 18, 19, 20, 21, 22, 23, 24, 25, 26, 27] [] rfl rfl (by kernel_rfl) (by kernel_rfl) (by kernel_rfl) (by kernel_rfl) (by kernel_rfl) (by kernel_rfl) (by kernel_rfl) (fun _ _ _ h => h) (Or.inl ⟨by rfl, Or.inl ?hy73⟩) ?rest73
      case hy73 => (intro w' kk ss; (try dsimp only at ss); go_simp; first | done | with_reducible rfl)
      try simp only [Act.put, List.setIfInBounds_toArray, List.set_cons_zero, List.set_cons_succ]
      refine Reg.wpG_take (i := 7) (oi := { dst := some 75, op := Op.call { callee := Callee.value (Operand.func 12), args := #[Operand.tmp 74], argTypes := #[24] }, type := 30, pos := "law.go:195", after := #[{ on := 6, ground := Ground.data }, { on := 4, ground := Ground.chain }, { on := 4, ground := Ground.guard }], guard := some (4, true) }) (v := sv b2 (.slice a2 d2.length cap2)) [9, 10, 11, 12, 13, 14, 15, 16, 17, 18, 19, 20, 21, 22, 23, 24, 25, 26, 27] [] rfl rfl (by kernel_rfl) (by kernel_rfl) (by kernel_rfl) (by kernel_rfl) (by kernel_rfl) (by kernel_rfl) (by kernel_rfl) (fun _ _ _ h => h) (Or.inl ⟨by rfl, Or.inr ⟨12, #[sv b2 (.slice a2 d2.length cap2)], fun w' kk ss => ⟨?_, ?_⟩⟩⟩) ?_
      · (try dsimp only at ss); go_simp
      · exact (Law03.theirs_any a2 d2.length cap2 b2 w').mono fun e w'' h => ⟨h.1, h.2, hall.out _ (hE.trans ((Since.drew (Since.refl _)).trans (kk.trans h.2)))⟩
      try simp only [Act.put, List.setIfInBounds_toArray, List.set_cons_zero, List.set_cons_succ]
      refine' Reg.wpG_take (i := 8) (oi := { dst := some 76, op := Op.load 24 (Operand.tmp 3), type := 24, pos := "law.go:195", after := #[{ on := 4, ground := Ground.guard }], guard := some (4, true) }) (v := _) [9, 10, 11, 12, 13, 14, 15, 16, 17, 18, 19, 20, 21, 22, 23, 24, 25, 26, 27] [] rfl rfl (by kernel_rfl) (by kernel_rfl) (by kernel_rfl) (by kernel_rfl) (by kernel_rfl) (by kernel_rfl) (by kernel_rfl) (fun _ _ _ h => h) (Or.inl ⟨by rfl, Or.inl ?hy74⟩) ?rest74
      case hy74 => (intro w' kk ss; (try dsimp only at ss); go_simp; first | done | with_reducible rfl)
      try simp only [Act.put, List.setIfInBounds_toArray, List.set_cons_zero, List.set_cons_succ]
      refine Reg.wpG_take (i := 9) (oi := { dst := some 77, op := Op.call { callee := Callee.value (Operand.func 12), args := #[Operand.tmp 76], argTypes := #[24] }, type := 30, pos := "law.go:195", after := #[{ on := 8, ground := Ground.data }, { on := 7, ground := Ground.chain }, { on := 4, ground := Ground.guard }], guard := some (4, true) }) (v := sv b0 (.slice a0 d0.length cap0)) [10, 11, 12, 13, 14, 15, 16, 17, 18, 19, 20, 21, 22, 23, 24, 25, 26, 27] [] rfl rfl (by kernel_rfl) (by kernel_rfl) (by kernel_rfl) (by kernel_rfl) (by kernel_rfl) (by kernel_rfl) (by kernel_rfl) (fun _ _ _ h => h) (Or.inl ⟨by rfl, Or.inr ⟨12, #[sv b0 (.slice a0 d0.length cap0)], fun w' kk ss => ⟨?_, ?_⟩⟩⟩) ?_
      · (try dsimp only at ss); go_simp
      · exact (Law03.theirs_any a0 d0.length cap0 b0 w').mono fun e w'' h => ⟨h.1, h.2, hall.out _ (hE.trans ((Since.drew (Since.refl _)).trans (kk.trans h.2)))⟩
      try simp only [Act.put, List.setIfInBounds_toArray, List.set_cons_zero, List.set_cons_succ]
      refine Reg.wpG_take (i := 10) (oi := { dst := some 78, op := Op.call { callee := Callee.value (Operand.tmp 73), args := #[Operand.tmp 75, Operand.tmp 77], argTypes := #[30, 30] }, type := 4, pos := "law.go:195", after := #[{ on := 5, ground := Ground.data }, { on := 7, ground := Ground.data }, { on := 9, ground := Ground.data }, { on := 9, ground := Ground.chain }, { on := 4, ground := Ground.guard }], guard := some (4, true) }) (v := .bool false) [11, 12, 13, 14, 15, 16, 17, 18, 19, 20, 21, 22, 23, 24, 25, 26, 27] [] rfl rfl (by kernel_rfl) (by kernel_rfl) (by kernel_rfl) (by kernel_rfl) (by kernel_rfl) (by kernel_rfl) (by kernel_rfl) (fun _ _ _ h => h) (Or.inl ⟨by rfl, Or.inr ⟨36, #[sv b2 (.slice a2 d2.length cap2), sv b0 (.slice a0 d0.length cap0)], fun w' kk ss => ⟨?_, ?_⟩⟩⟩) ?_
      · (try dsimp only at ss); go_simp
      · exact (Law03.divides_at a2 a0 cap2 cap0 b2 b0 d2 d0 w' (R2.out.since (hS0.trans (hS.trans (hE.trans ((Since.drew (Since.refl _)).trans kk))))) (R0.out.since (hS0.trans (hS.trans (hE.trans ((Since.drew (Since.refl _)).trans kk))))) M2.out M0.out D0.out).mono fun e w'' h => ⟨h.1, h.2, hall.out _ (hE.trans ((Since.drew (Since.refl _)).trans (kk.trans h.2)))⟩
      try simp only [Act.put, List.setIfInBounds_toArray, List.set_cons_zero, List.set_cons_succ]
      refine' Reg.wpG_take (i := 11) (oi := { dst := some 79, op := Op.pick (Operand.tmp 72) (Operand.tmp 78) (Operand.const (Value.bool false)), type := 4, pos := "law.go:195", after := #[{ on := 4, ground := Ground.data }, { on := 10, ground := Ground.data }], guard := none }) (v := _) [12, 13, 14, 15, 16, 17, 18, 19, 20, 21, 22, 23, 24, 25, 26, 27] [] rfl rfl (by kernel_rfl) (by kernel_rfl) (by kernel_rfl) (by kernel_rfl) (by kernel_rfl) (by kernel_rfl) (by kernel_rfl) (fun _ _ _ h => h) (Or.inl ⟨by rfl, Or.inl ?hy75⟩) ?rest75
      case hy75 => (intro w' kk ss; (try dsimp only at ss); go_simp; first | done | with_reducible rfl)
      try simp only [Act.put, List.setIfInBounds_toArray, List.set_cons_zero, List.set_cons_succ]
      refine' Reg.wpG_take (i := 12) (oi := { dst := some 80, op := Op.move (Operand.tmp 79), type := 4, pos := "law.go:195", after := #[{ on := 11, ground := Ground.data }, { on := 10, ground := Ground.chain }], guard := none }) (v := _) [13, 14, 15, 16, 17, 18, 19, 20, 21, 22, 23, 24, 25, 26, 27] [] rfl rfl (by kernel_rfl) (by kernel_rfl) (by kernel_rfl) (by kernel_rfl) (by kernel_rfl) (by kernel_rfl) (by kernel_rfl) (fun _ _ _ h => h) (Or.inl ⟨by rfl, Or.inl ?hy76⟩) ?rest76
      case hy76 => (intro w' kk ss; (try dsimp only at ss); go_simp; first | done | with_reducible rfl)
      try simp only [Act.put, List.setIfInBounds_toArray, List.set_cons_zero, List.set_cons_succ]
      refine Reg.wpG_take (i := 13) (oi := { dst := some 81, op := Op.move (Operand.tmp 9), type := 56, pos := "law.go:195", after := #[{ on := 12, ground := Ground.guard }], guard := some (12, true) }) (v := undef) [18, 19, 20, 21, 22, 23, 24, 25, 26, 27] [] rfl rfl (by kernel_rfl) (by kernel_rfl) (by kernel_rfl) (by kernel_rfl) (by kernel_rfl) (by kernel_rfl) (by kernel_rfl) (fun _ _ _ h => h) (Or.inr ⟨by rfl, rfl⟩) ?_
      try simp only [Act.put, List.setIfInBounds_toArray, List.set_cons_zero, List.set_cons_succ]
      refine Reg.wpG_take (i := 14) (oi := { dst := some 82, op := Op.load 24 (Operand.tmp 5), type := 24, pos := "law.go:195", after := #[{ on := 12, ground := Ground.guard }], guard := some (12, true) }) (v := undef) [15, 17, 18, 19, 20, 21, 22, 23, 24, 25, 26, 27] [] rfl rfl (by kernel_rfl) (by kernel_rfl) (by kernel_rfl) (by kernel_rfl) (by kernel_rfl) (by kernel_rfl) (by kernel_rfl) (fun _ _ _ h => h) (Or.inr ⟨by rfl, rfl⟩) ?_
      try simp only [Act.put, List.setIfInBounds_toArray, List.set_cons_zero, List.set_cons_succ]
      refine Reg.wpG_take (i := 15) (oi := { dst := some 83, op := Op.call { callee := Callee.value (Operand.func 12), args := #[Operand.tmp 82], argTypes := #[24] }, type := 30, pos := "law.go:195", after := #[{ on := 14, ground := Ground.data }, { on := 12, ground := Ground.chain }, { on := 12, ground := Ground.guard }], guard := some (12, true) }) (v := undef) [17, 18, 19, 20, 21, 22, 23, 24, 25, 26, 27] [] rfl rfl (by kernel_rfl) (by kernel_rfl) (by kernel_rfl) (by kernel_rfl) (by kernel_rfl) (by kernel_rfl) (by kernel_rfl) (fun _ _ _ h => h) (Or.inr ⟨by rfl, rfl⟩) ?_
      try simp only [Act.put, List.setIfInBounds_toArray, List.set_cons_zero, List.set_cons_succ]
      refine Reg.wpG_take (i := 16) (oi := { dst := some 84, op := Op.load 24 (Operand.tmp 4), type := 24, pos := "law.go:195", after := #[{ on := 12, ground := Ground.guard }], guard := some (12, true) }) (v := undef) [17, 18, 19, 20, 21, 22, 23, 24, 25, 26, 27] [] rfl rfl (by kernel_rfl) (by kernel_rfl) (by kernel_rfl) (by kernel_rfl) (by kernel_rfl) (by kernel_rfl) (by kernel_rfl) (fun _ _ _ h => h) (Or.inr ⟨by rfl, rfl⟩) ?_
      try simp only [Act.put, List.setIfInBounds_toArray, List.set_cons_zero, List.set_cons_succ]
      refine Reg.wpG_take (i := 17) (oi := { dst := some 85, op := Op.call { callee := Callee.value (Operand.func 12), args := #[Operand.tmp 84], argTypes := #[24] }, type := 30, pos := "law.go:195", after := #[{ on := 16, ground := Ground.data }, { on := 15, ground := Ground.chain }, { on := 12, ground := Ground.guard }], guard := some (12, true) }) (v := undef) [18, 19, 20, 21, 22, 23, 24, 25, 26, 27] [] rfl rfl (by kernel_rfl) (by kernel_rfl) (by kernel_rfl) (by kernel_rfl) (by kernel_rfl) (by kernel_rfl) (by kernel_rfl) (fun _ _ _ h => h) (Or.inr ⟨by rfl, rfl⟩) ?_
      try simp only [Act.put, List.setIfInBounds_toArray, List.set_cons_zero, List.set_cons_succ]
      refine Reg.wpG_take (i := 18) (oi := { dst := some 86, op := Op.call { callee := Callee.value (Operand.tmp 81), args := #[Operand.tmp 83, Operand.tmp 85], argTypes := #[30, 30] }, type := 4, pos := "law.go:195", after := #[{ on := 13, ground := Ground.data }, { on := 15, ground := Ground.data }, { on := 17, ground := Ground.data }, { on := 17, ground := Ground.chain }, { on := 12, ground := Ground.guard }], guard := some (12, true) }) (v := undef) [19, 20, 21, 22, 23, 24, 25, 26, 27] [] rfl rfl (by kernel_rfl) (by kernel_rfl) (by kernel_rfl) (by kernel_rfl) (by kernel_rfl) (by kernel_rfl) (by kernel_rfl) (fun _ _ _ h => h) (Or.inr ⟨by rfl, rfl⟩) ?_
      try simp only [Act.put, List.setIfInBounds_toArray, List.set_cons_zero, List.set_cons_succ]
      refine' Reg.wpG_take (i := 19) (oi := { dst := some 87, op := Op.pick (Operand.tmp 80) (Operand.tmp 86) (Operand.const (Value.bool false)), type := 4, pos := "law.go:195", after := #[{ on := 12, ground := Ground.data }, { on := 18, ground := Ground.data }], guard := none }) (v := _) [20, 21, 22, 23, 24, 25, 26, 27] [] rfl rfl (by kernel_rfl) (by kernel_rfl) (by kernel_rfl) (by kernel_rfl) (by kernel_rfl) (by kernel_rfl) (by kernel_rfl) (fun _ _ _ h => h) (Or.inl ⟨by rfl, Or.inl ?hy77⟩) ?rest77
      case hy77 => (intro w' kk ss; (try dsimp only at ss); go_simp; first | done | with_reducible rfl)
      try simp only [Act.put, List.setIfInBounds_toArray, List.set_cons_zero, List.set_cons_succ]
      refine' Reg.wpG_take (i := 20) (oi := { dst := some 88, op := Op.move (Operand.tmp 87), type := 4, pos := "law.go:195", after := #[{ on := 19, ground := Ground.data }, { on := 18, ground := Ground.chain }], guard := none }) (v := _) [21, 22, 23, 24, 25, 26, 27] [] rfl rfl (by kernel_rfl) (by kernel_rfl) (by kernel_rfl) (by kernel_rfl) (by kernel_rfl) (by kernel_rfl) (by kernel_rfl) (fun _ _ _ h => h) (Or.inl ⟨by rfl, Or.inl ?hy78⟩) ?rest78
      case hy78 => (intro w' kk ss; (try dsimp only at ss); go_simp; first | done | with_reducible rfl)
      try simp only [Act.put, List.setIfInBounds_toArray, List.set_cons_zero, List.set_cons_succ]
      refine Reg.wpG_take (i := 21) (oi := { dst := some 89, op := Op.move (Operand.tmp 9), type := 56, pos := "law.go:195", after := #[{ on := 20, ground := Ground.guard }], guard := some (20, true) }) (v := undef) [25, 26, 27] [] rfl rfl (by kernel_rfl) (by kernel_rfl) (by kernel_rfl) (by kernel_rfl) (by kernel_rfl) (by kernel_rfl) (by kernel_rfl) (fun _ _ _ h => h) (Or.inr ⟨by rfl, rfl⟩) ?_
      try simp only [Act.put, List.setIfInBounds_toArray, List.set_cons_zero, List.set_cons_succ]
      refine Reg.wpG_take (i := 22) (oi := { dst := some 90, op := Op.load 24 (Operand.tmp 5), type := 24, pos := "law.go:195", after := #[{ on := 20, ground := Ground.guard }], guard := some (20, true) }) (v := undef) [23, 25, 26, 27] [] rfl rfl (by kernel_rfl) (by kernel_rfl) (by kernel_rfl) (by kernel_rfl) (by kernel_rfl) (by kernel_rfl) (by kernel_rfl) (fun _ _ _ h => h) (Or.inr ⟨by rfl, rfl⟩) ?_
      try simp only [Act.put, List.setIfInBounds_toArray, List.set_cons_zero, List.set_cons_succ]
      refine Reg.wpG_take (i := 23) (oi := { dst := some 91, op := Op.call { callee := Callee.value (Operand.func 12), args := #[Operand.tmp 90], argTypes := #[24] }, type := 30, pos := "law.go:195", after := #[{ on := 22, ground := Ground.data }, { on := 20, ground := Ground.chain }, { on := 20, ground := Ground.guard }], guard := some (20, true) }) (v := undef) [25, 26, 27] [] rfl rfl (by kernel_rfl) (by kernel_rfl) (by kernel_rfl) (by kernel_rfl) (by kernel_rfl) (by kernel_rfl) (by kernel_rfl) (fun _ _ _ h => h) (Or.inr ⟨by rfl, rfl⟩) ?_
      try simp only [Act.put, List.setIfInBounds_toArray, List.set_cons_zero, List.set_cons_succ]
      refine Reg.wpG_take (i := 24) (oi := { dst := some 92, op := Op.load 30 (Operand.tmp 7), type := 30, pos := "law.go:195", after := #[{ on := 20, ground := Ground.guard }], guard := some (20, true) }) (v := undef) [25, 26, 27] [] rfl rfl (by kernel_rfl) (by kernel_rfl) (by kernel_rfl) (by kernel_rfl) (by kernel_rfl) (by kernel_rfl) (by kernel_rfl) (fun _ _ _ h => h) (Or.inr ⟨by rfl, rfl⟩) ?_
      try simp only [Act.put, List.setIfInBounds_toArray, List.set_cons_zero, List.set_cons_succ]
      refine Reg.wpG_take (i := 25) (oi := { dst := some 93, op := Op.call { callee := Callee.value (Operand.tmp 89), args := #[Operand.tmp 91, Operand.tmp 92], argTypes := #[30, 30] }, type := 4, pos := "law.go:195", after := #[{ on := 21, ground := Ground.data }, { on := 23, ground := Ground.data }, { on := 24, ground := Ground.data }, { on := 23, ground := Ground.chain }, { on := 20, ground := Ground.guard }], guard := some (20, true) }) (v := undef) [26, 27] [] rfl rfl (by kernel_rfl) (by kernel_rfl) (by kernel_rfl) (by kernel_rfl) (by kernel_rfl) (by kernel_rfl) (by kernel_rfl) (fun _ _ _ h => h) (Or.inr ⟨by rfl, rfl⟩) ?_
      try simp only [Act.put, List.setIfInBounds_toArray, List.set_cons_zero, List.set_cons_succ]
      refine Reg.wpG_take (i := 26) (oi := { dst := some 94, op := Op.unOp UnOp.not 4 (Operand.tmp 93), type := 4, pos := "law.go:195", after := #[{ on := 25, ground := Ground.data }, { on := 20, ground := Ground.guard }], guard := some (20, true) }) (v := undef) [27] [] rfl rfl (by kernel_rfl) (by kernel_rfl) (by kernel_rfl) (by kernel_rfl) (by kernel_rfl) (by kernel_rfl) (by kernel_rfl) (fun _ _ _ h => h) (Or.inr ⟨by rfl, rfl⟩) ?_
      try simp only [Act.put, List.setIfInBounds_toArray, List.set_cons_zero, List.set_cons_succ]
      refine' Reg.wpG_take (i := 27) (oi := { dst := some 95, op := Op.pick (Operand.tmp 88) (Operand.tmp 94) (Operand.const (Value.bool false)), type := 4, pos := "law.go:195", after := #[{ on := 20, ground := Ground.data }, { on := 26, ground := Ground.data }], guard := none }) (v := _) [] [] rfl rfl (by kernel_rfl) (by kernel_rfl) (by kernel_rfl) (by kernel_rfl) (by kernel_rfl) (by kernel_rfl) (by kernel_rfl) (fun _ _ _ h => h) (Or.inl ⟨by rfl, Or.inl ?hy79⟩) ?rest79
      case hy79 => (intro w' kk ss; (try dsimp only at ss); go_simp; first | done | with_reducible rfl)
      try simp only [Act.put, List.setIfInBounds_toArray, List.set_cons_zero, List.set_cons_succ]
      refine Reg.wpG_done (by kernel_rfl) (fun we ke se => ?_) _
      refine NoPanic.normal ?_
      have hE := hE.trans ((Since.drew (Since.refl _)).trans ke)
      clear ke
      go_wp2_with fail
      go_ret
      exact ⟨rfl, hS0.trans (hS.trans hE)⟩

set_option maxRecDepth 100000 in
theorem lifted (os : Os) (started : os.Started) (H : Type) (enc : TypeId × Value → H) :
    ReturnsInHanded {} Try.checked os 7 .any (Rows.signedGcdSpec.pre6 enc Try.prog Try.f7 Rows.signedGcdRow.domain false) (Rows.signedGcdSpec.post enc Try.prog Try.f7 false true false false) := by
  refine returnsInHanded_of_change (C := Try.checked) own started (by kernel_rfl) Try.func7
    (ChangeSpec.witness6 (enc := enc) (C := Try.checked) false ⟨#[], #[.agg #[.bool false, .slice none 0 0], .agg #[.bool false, .slice none 0 0], .agg #[.bool false, .slice none 0 0]], []⟩ 8 (by kernel_rfl) (by kernel_rfl) (by kernel_rfl) (by kernel_rfl)) ?_
  intro W base args ds gs before hval0 hW hcnd _
  have hval : ∀ (j : Nat) t v, Try.f7.params[j]? = some t → args[j]? = some v → Value.okWide Try.prog W .any base t v := hval0
  have hW' := hW
  obtain ⟨p, q, hA0, hV, rfl, hfz, hnd⟩ := hW
  have hA : DataW.TrodAll enc Try.prog W 0 (fun _ => true) true Try.f7.params.toList args.toList ds p := hA0
  rw [Try.params7] at hA hval
  obtain ⟨v0, vs0, d0, ds0, p0, q0, hargs, rfl, rfl, h0, r0⟩ := trodAll_cons hA
  obtain ⟨v1, vs1, d1, ds1, p1, q1, rfl, rfl, rfl, h1, r1⟩ := trodAll_cons r0
  obtain ⟨v2, vs2, d2, ds2, p2, q2, rfl, rfl, rfl, h2, r2⟩ := trodAll_cons r1
  obtain ⟨rfl, rfl, rfl⟩ := trodAll_nil r2
  obtain rfl : args = #[v0, v1, v2] := by cases args; simp_all
  obtain ⟨rfl, rfl⟩ := trodVars_none hV
  have k0 := h0
  have lt0 : ∀ x ∈ p0, x.block < W.heap.size := by obtain ⟨m, hm⟩ := k0; exact DataW.trod_lt m _ _ _ hm
  obtain ⟨cb0, cm0, yb0, ym0, mm0, rfl, rfl, rfl, hb0, hm0⟩ := open_agg2 Try.underlying24 (by kernel_rfl) cells24 (hval 0 24 v0 rfl rfl) h0
  obtain ⟨b0, eb0, xb0⟩ := DataW.trod_bool Try.underlying4 hb0
  simp at eb0
  subst eb0
  obtain ⟨a0, len0, cap0, em0⟩ := slice_form Try.underlying22 hm0
  simp at em0
  subst em0
  obtain ⟨z0, w0⟩ : ∃ zs, IsRow .u32 W a0 len0 cap0 zs := by
    have hf := hm0
    rcases open_ints Try.underlying22 Try.underlying59 (by kernel_rfl) hf with ⟨hcs, _⟩ | ⟨x, l, c, zs, hcs, _, hl, hm, hz, _, hcell, hwz⟩
    · simp [Value.cells] at hcs
      obtain ⟨rfl, rfl, rfl⟩ := hcs
      exact ⟨[], .inl ⟨rfl, rfl, rfl, rfl⟩⟩
    · simp [Value.cells] at hcs
      obtain ⟨rfl, rfl, rfl⟩ := hcs
      exact ⟨zs, .inr ⟨_, rfl, hl, hm, by simpa using hz, hcell, hwz⟩⟩
  have k1 := h1
  have lt1 : ∀ x ∈ p1, x.block < W.heap.size := by obtain ⟨m, hm⟩ := k1; exact DataW.trod_lt m _ _ _ hm
  obtain ⟨cb1, cm1, yb1, ym1, mm1, rfl, rfl, rfl, hb1, hm1⟩ := open_agg2 Try.underlying24 (by kernel_rfl) cells24 (hval 1 24 v1 rfl rfl) h1
  obtain ⟨b1, eb1, xb1⟩ := DataW.trod_bool Try.underlying4 hb1
  simp at eb1
  subst eb1
  obtain ⟨a1, len1, cap1, em1⟩ := slice_form Try.underlying22 hm1
  simp at em1
  subst em1
  obtain ⟨z1, w1⟩ : ∃ zs, IsRow .u32 W a1 len1 cap1 zs := by
    have hf := hm1
    rcases open_ints Try.underlying22 Try.underlying59 (by kernel_rfl) hf with ⟨hcs, _⟩ | ⟨x, l, c, zs, hcs, _, hl, hm, hz, _, hcell, hwz⟩
    · simp [Value.cells] at hcs
      obtain ⟨rfl, rfl, rfl⟩ := hcs
      exact ⟨[], .inl ⟨rfl, rfl, rfl, rfl⟩⟩
    · simp [Value.cells] at hcs
      obtain ⟨rfl, rfl, rfl⟩ := hcs
      exact ⟨zs, .inr ⟨_, rfl, hl, hm, by simpa using hz, hcell, hwz⟩⟩
  have k2 := h2
  have lt2 : ∀ x ∈ p2, x.block < W.heap.size := by obtain ⟨m, hm⟩ := k2; exact DataW.trod_lt m _ _ _ hm
  obtain ⟨cb2, cm2, yb2, ym2, mm2, rfl, rfl, rfl, hb2, hm2⟩ := open_agg2 Try.underlying24 (by kernel_rfl) cells24 (hval 2 24 v2 rfl rfl) h2
  obtain ⟨b2, eb2, xb2⟩ := DataW.trod_bool Try.underlying4 hb2
  simp at eb2
  subst eb2
  obtain ⟨a2, len2, cap2, em2⟩ := slice_form Try.underlying22 hm2
  simp at em2
  subst em2
  obtain ⟨z2, w2⟩ : ∃ zs, IsRow .u32 W a2 len2 cap2 zs := by
    have hf := hm2
    rcases open_ints Try.underlying22 Try.underlying59 (by kernel_rfl) hf with ⟨hcs, _⟩ | ⟨x, l, c, zs, hcs, _, hl, hm, hz, _, hcell, hwz⟩
    · simp [Value.cells] at hcs
      obtain ⟨rfl, rfl, rfl⟩ := hcs
      exact ⟨[], .inl ⟨rfl, rfl, rfl, rfl⟩⟩
    · simp [Value.cells] at hcs
      obtain ⟨rfl, rfl, rfl⟩ := hcs
      exact ⟨zs, .inr ⟨_, rfl, hl, hm, by simpa using hz, hcell, hwz⟩⟩
  clear hA0 hval0
  refine (walk b0 a0 len0 cap0 z0 b1 a1 len1 cap1 z1 b2 a2 len2 cap2 z2 W w0 w1 w2).mono fun e W' ⟨he, bel⟩ => ?_
  subst he
  exact ⟨_, rfl, _, _, _, [], _, [], hW', trodAll_mk1 (shut_bool Try.underlying4 _), (trodAll_cons_mk (Below.trod laidOut (by kernel_rfl) (of_decide_eq_true (by kernel_rfl)) k0 bel lt0) (trodAll_cons_mk (Below.trod laidOut (by kernel_rfl) (of_decide_eq_true (by kernel_rfl)) k1 bel lt1) (trodAll_cons_mk (Below.trod laidOut (by kernel_rfl) (of_decide_eq_true (by kernel_rfl)) k2 bel lt2) trodAll_mk0))), rfl, bel.frame _, fun h => by cases h⟩

theorem over : Rows.signedGcdRow.holds Try.pinned (OpenSpec.ofChange Rows.signedGcdSpec) :=
  OpenClaim.holds_of_wide 7 Try.f7 rfl rfl rfl rfl rfl rfl rfl ⟨rfl, rfl, rfl, rfl, rfl⟩ rfl rfl rfl rfl rfl (by kernel_rfl) Try.func7 (by kernel_rfl)
    (of_decide_eq_true (by kernel_rfl)) (by unfold Func.isWrapper; first | (rw [if_pos (by decide +kernel)]; kernel_rfl) | (rw [if_neg (by decide +kernel)]; exact ⟨rfl, rfl⟩))
    (fun os started H enc _ => lifted os started H enc)

/-- THE STATEMENT -/
theorem proved : Rows.SignedGcdSaid := over
#print axioms proved
end Go.Proofs.Ytmnankcllblgjaa.signedGcd
