/-
  For all numbers a and b of layer 3: the law SignedDivs returns true (DivMod and Gcd answer as the document does, where neither has more than 30 digits) and leaves both as they were. No condition.
-/
import Derived.Test.YtmnankcllblgjaaRows
import Derived.WalkKit
import Derived.ProofKit
import Derived.OpenShut
import Derived.ShutString
import Derived.ChangeOld
import Derived.Below
import Derived.Lib.SmallJoins
import Derived.Test.YtmnankcllblgjaaLw
import Derived.Test.YtmnankcllblgjaaWd
import Derived.Test.YtmnankcllblgjaaSc
import Derived.Test.YtmnankcllblgjaaRe
import Derived.Test.YtmnankcllblgjaaLx
import Derived.Test.YtmnankcllblgjaaRg
import Derived.Deep.RegionHeld3
import Derived.Deep.DeepCutAuto
namespace Go.Proofs.Ytmnankcllblgjaa.signedDivs
open Go.Joins
open Go.ChangeShapes Go.WideShapes Go.ChangeAt Go.RowKit
open Go.ChangeMaps (open_string shut_string)
open Go.Proofs.Ytmnankcllblgjaa.Dig
open Go.Proofs.Ytmnankcllblgjaa.Ref03 (sv RetZ divZ gcdZ srightB)
set_option linter.unusedVariables false
set_option linter.unusedSimpArgs false

theorem cells24 : Try.prog.cellsOf 24 = 2 := by kernel_rfl
theorem own : ownKnob Try.prog.godebug = none := by kernel_rfl
theorem laidOut : laidOutB Try.prog = true := by kernel_rfl

/-- WHAT THE WALK IS TOLD OF A SLICE OF INTEGERS THAT CAME IN: it is nil; or it leads to a row of 'cap' cells, the numbers 'zs' (the first 'len' are its elements, the rest its spare room), each fitting its kind. -/
def IsRow (k : IntKind) (w : World) (a : Option Addr) (len cap : Nat) (zs : List Int) : Prop :=
  (a = none ∧ len = 0 ∧ cap = 0 ∧ zs = []) ∨
  ∃ x, a = some x ∧ len ≤ cap ∧ cap ≤ maxLen ∧ zs.length = cap ∧ (∀ i, i < zs.length → w.cell? (x.add i) = some (.int k (zs.getD i 0))) ∧ ∀ n ∈ zs, (Lit.int k n).wf = true

theorem divq (A0 A1 : Option Addr) (c0 c1 : Nat) (na nb : Bool) (xs ys : List Nat) (w : World) (hx : Row w (.slice A0 xs.length c0) xs) (hy : Row w (.slice A1 ys.length c1) ys) (lx : xs.length ≤ 1000) (ly : ys.length ≤ 1000) {n1 n2 : Bool} {s1 s2 : List Nat} {e1 : Int} (h : divZ na xs nb ys = (((n1, s1), (n2, s2)), e1)) :
    Calls Try.prog 28 #[sv na (.slice A0 xs.length c0), sv nb (.slice A1 ys.length c1)] w fun e w' => ∃ A c B d, e = .returned (.tuple #[sv n1 (.slice A s1.length c), sv n2 (.slice B s2.length d), .int .i64 e1]) ∧ Row w' (.slice A s1.length c) s1 ∧ Row w' (.slice B s2.length d) s2 ∧ Since w w' := by
  have k := Sg03.divmod_any A0 A1 c0 c1 na nb xs ys w hx hy lx ly
  rwa [h] at k
theorem rdivq (A0 A1 : Option Addr) (c0 c1 : Nat) (na nb : Bool) (xs ys : List Nat) (w : World) (hx : Row w (.slice A0 xs.length c0) xs) (hy : Row w (.slice A1 ys.length c1) ys) (lx : xs.length ≤ 1000) (ly : ys.length ≤ 1000) {n1 n2 : Bool} {s1 s2 : List Nat} {e1 : Int} (h : divZ na xs nb ys = (((n1, s1), (n2, s2)), e1)) :
    Calls Try.prog 29 #[sv na (.slice A0 xs.length c0), sv nb (.slice A1 ys.length c1)] w fun e w' => ∃ A c B d, e = .returned (.tuple #[sv n1 (.slice A s1.length c), sv n2 (.slice B s2.length d), .int .i64 e1]) ∧ Row w' (.slice A s1.length c) s1 ∧ Row w' (.slice B s2.length d) s2 ∧ Since w w' := by
  have k := Ref03.divmod_any A0 A1 c0 c1 na nb xs ys w hx hy lx ly
  rwa [h] at k
theorem gcd_at (A0 A1 : Option Addr) (c0 c1 : Nat) (na nb : Bool) (xs ys : List Nat) (w : World) (hx : Row w (.slice A0 xs.length c0) xs) (hy : Row w (.slice A1 ys.length c1) ys) (lx : xs.length ≤ 1000) (ly : ys.length ≤ 1000) {n1 : Bool} {s1 : List Nat} {e1 : Int} (h : gcdZ na xs nb ys = ((n1, s1), e1)) :
    Calls Try.prog 30 #[sv na (.slice A0 xs.length c0), sv nb (.slice A1 ys.length c1)] w fun e w' => ∃ A c, e = .returned (.tuple #[sv n1 (.slice A s1.length c), .int .i64 e1]) ∧ Row w' (.slice A s1.length c) s1 ∧ Since w w' := by
  have k := Sg03.gcd_any A0 A1 c0 c1 na nb xs ys w hx hy lx ly
  rwa [h] at k
theorem rgcd_at (A0 A1 : Option Addr) (c0 c1 : Nat) (na nb : Bool) (xs ys : List Nat) (w : World) (hx : Row w (.slice A0 xs.length c0) xs) (hy : Row w (.slice A1 ys.length c1) ys) (lx : xs.length ≤ 1000) (ly : ys.length ≤ 1000) {n1 : Bool} {s1 : List Nat} {e1 : Int} (h : gcdZ na xs nb ys = ((n1, s1), e1)) :
    Calls Try.prog 31 #[sv na (.slice A0 xs.length c0), sv nb (.slice A1 ys.length c1)] w fun e w' => ∃ A c, e = .returned (.tuple #[sv n1 (.slice A s1.length c), .int .i64 e1]) ∧ Row w' (.slice A s1.length c) s1 ∧ Since w w' := by
  have k := Ref03.gcd_any A0 A1 c0 c1 na nb xs ys w hx hy lx ly
  rwa [h] at k

set_option maxRecDepth 100000 in
set_option maxHeartbeats 40000000 in
theorem walk (b0 : Bool) (a0 : Option Addr) (len0 cap0 : Nat) (z0 : List Int) (b1 : Bool) (a1 : Option Addr) (len1 cap1 : Nat) (z1 : List Int) (w : World) (w0 : IsRow .u32 w a0 len0 cap0 z0) (w1 : IsRow .u32 w a1 len1 cap1 z1) :
    Calls Try.prog 5 #[.agg #[.bool b0, .slice a0 len0 cap0], .agg #[.bool b1, .slice a1 len1 cap1]] w fun e w' => e = .returned (.bool true) ∧ Since w w' := by
  obtain ⟨d0, hl0, hr0⟩ := row_in w0
  have R0 := Lib.hid hr0
  obtain ⟨d1, hl1, hr1⟩ := row_in w1
  have R1 := Lib.hid hr1
  clear w0 hr0 w1 hr1
  subst hl0 hl1
  obtain ⟨W0, hW0⟩ : ∃ W0, W0 = (w.alloc (.cells #[.bool b0, .slice a0 d0.length cap0] 24)).alloc (.cells #[.bool b1, .slice a1 d1.length cap1] 24) := ⟨_, rfl⟩
  have HW := Lib.hid hW0
  have hS0 : Since w W0 := by rw [hW0]; exact ((Since.refl w).alloc _).alloc _
  have hold : Hid (∀ W : World, Since W0 W → (W.cell? ⟨w.heap.size, 0, none⟩ = some (.bool b0) ∧ W.cell? ⟨w.heap.size, 1, none⟩ = some (.slice a0 d0.length cap0) ∧ W.cell? ⟨w.heap.size + 1, 0, none⟩ = some (.bool b1) ∧ W.cell? ⟨w.heap.size + 1, 1, none⟩ = some (.slice a1 d1.length cap1)) ∧ Since w W) := fun W h => ⟨Ref03.hold2of (hW0 ▸ h), hS0.trans h⟩
  clear hW0
  have hK := Since.refl W0
  by_cases g : (decide (d0.length ≤ 30) && decide (d1.length ≤ 30)) = true
  rotate_left
  · have HF := Lib.hid (show (decide (d0.length ≤ 30) && decide (d1.length ≤ 30)) = false by simpa using g)
    clear g
    go_enter Try.func5, Try.ntmps5
    go_wp2_with fail
    rw [← HW.out]
    go_wp2_with (first
      | (go_at_call 9; (with_reducible refine (Alive03.alive _).mono ?_); rintro e v0 ⟨rfl, h⟩; have hK := hK.trans h; obtain ⟨⟨k0, k1, k2, k3⟩, _⟩ := hold.out _ hK)
      | (go_at_call 10; (with_reducible refine (Law03.few_two _ _ ⟨b0, a0, cap0, d0⟩ ⟨b1, a1, cap1, d1⟩).mono ?_); rw [HF.out]; rintro e vf ⟨rfl, h⟩; have hK := hK.trans h; obtain ⟨⟨k0, k1, k2, k3⟩, _⟩ := hold.out _ hK))
    go_ret
    exact ⟨rfl, hS0.trans hK⟩
  have HF := Lib.hid g
  have L0 : d0.length ≤ 30 := by simp at g; omega
  have L1 : d1.length ≤ 30 := by simp at g; omega
  have M0 := Lib.hid (show d0.length ≤ 1000 by omega)
  have M1 := Lib.hid (show d1.length ≤ 1000 by omega)
  clear g L0 L1
  obtain ⟨⟨⟨⟨n1, s1⟩, ⟨n2, s2⟩⟩, e1⟩, E1⟩ : ∃ r, divZ b0 d0 b1 d1 = r := ⟨_, rfl⟩
  obtain ⟨⟨⟨n3, s3⟩, e3⟩, E3⟩ : ∃ r, gcdZ b0 d0 b1 d1 = r := ⟨_, rfl⟩
  have LS := Lib.hid (show (s1.length ≤ 10000 ∧ s2.length ≤ 10000) ∧ s3.length ≤ 10000 by have h := Ref03.divZ_len b0 d0 b1 d1 R0.out.dig R1.out.dig M0.out M1.out; rw [E1] at h; have h' := Ref03.gcdZ_len b0 d0 b1 d1 R0.out.dig R1.out.dig M0.out M1.out; rw [E3] at h'; simp only at h h'; omega)
  have E1 := Lib.hid E1
  have E3 := Lib.hid E3
  go_enter Try.func5, Try.ntmps5
  go_wp2_with fail
  rw [← HW.out]
  go_upto_region 5 with (first
      | (go_at_call 9; (with_reducible refine (Alive03.alive _).mono ?_); rintro e v0 ⟨rfl, h⟩; have hK := hK.trans h; obtain ⟨⟨k0, k1, k2, k3⟩, _⟩ := hold.out _ hK)
      | (go_at_call 10; (with_reducible refine (Law03.few_two _ _ ⟨b0, a0, cap0, d0⟩ ⟨b1, a1, cap1, d1⟩).mono ?_); rw [HF.out]; rintro e vf ⟨rfl, h⟩; have hZ := hK.trans h; have hK := hZ; obtain ⟨⟨k0, k1, k2, k3⟩, _⟩ := hold.out _ hK))
  clear hK
  go_cut [5, 6, 7] (fun p5 p6 p7 W => ∃ (c0 : Nat) (c1 : Nat) (A1 : Option Addr) (q1 : Nat) (A2 : Option Addr) (q2 : Nat), p5 = .pointer (some ⟨c0, 0, none⟩) ∧ p6 = .pointer (some ⟨c1, 0, none⟩) ∧ p7 = .int .i64 e1 ∧ Since vf W ∧ Row W (.slice A1 s1.length q1) s1 ∧ Row W (.slice A2 s2.length q2) s2 ∧ (W.cell? ⟨c0, 0, none⟩ = some (.bool n1) ∧ W.cell? ⟨c0, 1, none⟩ = some (.slice A1 s1.length q1)) ∧ (W.cell? ⟨c1, 0, none⟩ = some (.bool n2) ∧ W.cell? ⟨c1, 1, none⟩ = some (.slice A2 s2.length q2)))
  case first =>
    have hSall : Hid (∀ W : World, Since vf W → W.cell? ⟨w.heap.size, 0, none⟩ = some (.bool b0) ∧ W.cell? ⟨w.heap.size, 1, none⟩ = some (.slice a0 d0.length cap0) ∧ W.cell? ⟨w.heap.size + 1, 0, none⟩ = some (.bool b1) ∧ W.cell? ⟨w.heap.size + 1, 1, none⟩ = some (.slice a1 d1.length cap1)) := fun W h => (hold.out _ (hZ.trans h)).1
    have hr0 : Since vf vf.drew := Since.drew (Since.refl _)
    refine wp_region_noPanic ?_
    refine Reg.wp_region_G (S := fun W => W.cell? ⟨w.heap.size, 0, none⟩ = some (.bool b0) ∧ W.cell? ⟨w.heap.size, 1, none⟩ = some (.slice a0 d0.length cap0) ∧ W.cell? ⟨w.heap.size + 1, 0, none⟩ = some (.bool b1) ∧ W.cell? ⟨w.heap.size + 1, 1, none⟩ = some (.slice a1 d1.length cap1)) (fun j => [4, 5, 6, 7, 8, 11, 12, 13].contains j) (by kernel_rfl) ?_ ?_
    · exact hSall.out _ (hr0)
    refine' Reg.wpG_take (i := 0) (oi := { dst := some 23, op := Op.load 24 (Operand.tmp 2), type := 24, pos := "law.go:88", after := #[], guard := none }) (v := _) [1, 3, 4, 5, 6, 7, 8, 11, 12, 13] [4, 5, 6, 7, 8, 11, 12, 13] rfl rfl (by kernel_rfl) (by kernel_rfl) (by kernel_rfl) (by kernel_rfl) (by kernel_rfl) (by kernel_rfl) (by kernel_rfl) (fun _ _ _ h => h) (Or.inl ⟨by rfl, Or.inl ?hy1⟩) ?rest1
    case hy1 => (intro w' kk ss; (try dsimp only at ss); go_simp; first | done | with_reducible rfl)
    try simp only [Act.put, List.setIfInBounds_toArray, List.set_cons_zero, List.set_cons_succ]
    refine Reg.wpG_take (i := 1) (oi := { dst := some 24, op := Op.call { callee := Callee.value (Operand.func 12), args := #[Operand.tmp 23], argTypes := #[24] }, type := 30, pos := "law.go:88", after := #[{ on := 0, ground := Ground.data }], guard := none }) (v := sv b0 (.slice a0 d0.length cap0)) [3, 4, 5, 6, 7, 8, 11, 12, 13] [4, 5, 6, 7, 8, 11, 12, 13] rfl rfl (by kernel_rfl) (by kernel_rfl) (by kernel_rfl) (by kernel_rfl) (by kernel_rfl) (by kernel_rfl) (by kernel_rfl) (fun _ _ _ h => h) (Or.inl ⟨by rfl, Or.inr ⟨12, #[sv b0 (.slice a0 d0.length cap0)], fun w' kk ss => ⟨?_, ?_⟩⟩⟩) ?_
    · (try dsimp only at ss); go_simp
    · exact (Law03.theirs_any a0 d0.length cap0 b0 w').mono fun e w'' h => ⟨h.1, h.2, hSall.out _ ((hr0.trans (kk.trans h.2)))⟩
    try simp only [Act.put, List.setIfInBounds_toArray, List.set_cons_zero, List.set_cons_succ]
    refine' Reg.wpG_take (i := 2) (oi := { dst := some 25, op := Op.load 24 (Operand.tmp 3), type := 24, pos := "law.go:88", after := #[], guard := none }) (v := _) [3, 4, 5, 6, 7, 8, 11, 12, 13] [4, 5, 6, 7, 8, 11, 12, 13] rfl rfl (by kernel_rfl) (by kernel_rfl) (by kernel_rfl) (by kernel_rfl) (by kernel_rfl) (by kernel_rfl) (by kernel_rfl) (fun _ _ _ h => h) (Or.inl ⟨by rfl, Or.inl ?hy2⟩) ?rest2
    case hy2 => (intro w' kk ss; (try dsimp only at ss); go_simp; first | done | with_reducible rfl)
    try simp only [Act.put, List.setIfInBounds_toArray, List.set_cons_zero, List.set_cons_succ]
    refine Reg.wpG_take (i := 3) (oi := { dst := some 26, op := Op.call { callee := Callee.value (Operand.func 12), args := #[Operand.tmp 25], argTypes := #[24] }, type := 30, pos := "law.go:88", after := #[{ on := 2, ground := Ground.data }, { on := 1, ground := Ground.chain }], guard := none }) (v := sv b1 (.slice a1 d1.length cap1)) [4, 5, 6, 7, 8, 11, 12, 13] [4, 5, 6, 7, 8, 11, 12, 13] rfl rfl (by kernel_rfl) (by kernel_rfl) (by kernel_rfl) (by kernel_rfl) (by kernel_rfl) (by kernel_rfl) (by kernel_rfl) (fun _ _ _ h => h) (Or.inl ⟨by rfl, Or.inr ⟨12, #[sv b1 (.slice a1 d1.length cap1)], fun w' kk ss => ⟨?_, ?_⟩⟩⟩) ?_
    · (try dsimp only at ss); go_simp
    · exact (Law03.theirs_any a1 d1.length cap1 b1 w').mono fun e w'' h => ⟨h.1, h.2, hSall.out _ ((hr0.trans (kk.trans h.2)))⟩
    try simp only [Act.put, List.setIfInBounds_toArray, List.set_cons_zero, List.set_cons_succ]
    refine Reg.wpG_ready (rs := [4, 9, 10]) (by kernel_rfl) (by simp) (fun wq1 k1' sq1 => ?_)
    have hr0 := hr0.trans k1'
    refine Reg.AllG.last (o := { dst := some 27, op := Op.call { callee := Callee.value (Operand.func 28), args := #[Operand.tmp 24, Operand.tmp 26], argTypes := #[30, 30] }, type := 51, pos := "law.go:88", after := #[{ on := 1, ground := Ground.data }, { on := 3, ground := Ground.data }, { on := 3, ground := Ground.chain }], guard := none }) rfl (by rfl) (fun K hK => ?_) (Reg.AllG.first (o := { dst := some 5, op := Op.alloc 30, type := 0, pos := "law.go:88", after := #[], guard := none }) rfl (by rfl) (fun K hK => ?_) (Reg.AllG.first (o := { dst := some 6, op := Op.alloc 30, type := 0, pos := "law.go:88", after := #[], guard := none }) rfl (by rfl) (fun K hK => ?_) Reg.AllG.nil))
    · go_simp
      (with_reducible refine (divq a0 a1 cap0 cap1 b0 b1 d0 d1 wq1 (R0.out.since (hS0.trans (hZ.trans hr0))) (R1.out.since (hS0.trans (hZ.trans hr0))) M0.out M1.out E1.out).mono ?_)
      rintro e y ⟨A1, q1, A2, q2, rfl, r1, r2, hx⟩
      have hr0 := hr0.trans hx
      have hby := hr0.size
      refine hK.out _ _ ?_ (fun hHeld => ?_)
      · exact hSall.out _ (hr0)
      clear hK K
      try simp only [Act.put, List.setIfInBounds_toArray, List.set_cons_zero, List.set_cons_succ]
      refine' wpAnyH_take (i := 5) (oi := { dst := some 22, op := Op.move (Operand.tmp 27), type := 51, pos := "law.go:88", after := #[{ on := 4, ground := Ground.data }], guard := none }) (v := _) rfl (by kernel_rfl) (by kernel_rfl) (by kernel_rfl) (fun _ _ _ h => h) (Or.inl ⟨by rfl, ?hy3⟩) (by assumption) ?rest3
      case hy3 => (intro w' ss; (try dsimp only at ss); go_simp; first | done | with_reducible rfl)
      try simp only [Act.put, List.setIfInBounds_toArray, List.set_cons_zero, List.set_cons_succ]
      refine' wpAnyH_take (i := 6) (oi := { dst := some 28, op := Op.extract (Operand.tmp 22) 0, type := 30, pos := "law.go:88", after := #[{ on := 5, ground := Ground.data }], guard := none }) (v := _) rfl (by kernel_rfl) (by kernel_rfl) (by kernel_rfl) (fun _ _ _ h => h) (Or.inl ⟨by rfl, ?hy4⟩) (by assumption) ?rest4
      case hy4 => (intro w' ss; (try dsimp only at ss); go_simp; first | done | with_reducible rfl)
      try simp only [Act.put, List.setIfInBounds_toArray, List.set_cons_zero, List.set_cons_succ]
      refine' wpAnyH_take (i := 7) (oi := { dst := some 29, op := Op.extract (Operand.tmp 22) 1, type := 30, pos := "law.go:88", after := #[{ on := 5, ground := Ground.data }, { on := 11, ground := Ground.gcOnly Departure.lateStores }], guard := none }) (v := _) rfl (by kernel_rfl) (by kernel_rfl) (by kernel_rfl) (fun _ _ _ h => h) (Or.inl ⟨by rfl, ?hy5⟩) (by assumption) ?rest5
      case hy5 => (intro w' ss; (try dsimp only at ss); go_simp; first | done | with_reducible rfl)
      try simp only [Act.put, List.setIfInBounds_toArray, List.set_cons_zero, List.set_cons_succ]
      refine' wpAnyH_take (i := 8) (oi := { dst := some 30, op := Op.extract (Operand.tmp 22) 2, type := 27, pos := "law.go:88", after := #[{ on := 5, ground := Ground.data }, { on := 12, ground := Ground.gcOnly Departure.lateStores }], guard := none }) (v := _) rfl (by kernel_rfl) (by kernel_rfl) (by kernel_rfl) (fun _ _ _ h => h) (Or.inl ⟨by rfl, ?hy6⟩) (by assumption) ?rest6
      case hy6 => (intro w' ss; (try dsimp only at ss); go_simp; first | done | with_reducible rfl)
      try simp only [Act.put, List.setIfInBounds_toArray, List.set_cons_zero, List.set_cons_succ]
      refine wpAnyH_ready (rs := [9, 10]) (by kernel_rfl) (by simp) ?_
      refine AllReadyH.cons (o := { dst := some 5, op := Op.alloc 30, type := 0, pos := "law.go:88", after := #[], guard := none }) rfl (fun K hK => ?_) (AllReadyH.cons (o := { dst := some 6, op := Op.alloc 30, type := 0, pos := "law.go:88", after := #[], guard := none }) rfl (fun K hK => ?_) AllReadyH.nil)
      · go_simp
        refine hK.out _ _ ?_ (fun hHeld => ?_)
        · refine hSall.out _ ?_; repeat (first | assumption | exact Since.refl _ | refine Since.alloc ?_ _ | (refine Since.set ?_ ?_ _; rotate_left; first | exact Nat.le_refl _ | assumption | exact hby))
        clear hK K
        try simp only [Act.put, List.setIfInBounds_toArray, List.set_cons_zero, List.set_cons_succ]
        refine wpAnyH_ready (rs := [10]) (by kernel_rfl) (by simp) ?_
        refine AllReadyH.cons (o := { dst := some 6, op := Op.alloc 30, type := 0, pos := "law.go:88", after := #[], guard := none }) rfl (fun K hK => ?_) AllReadyH.nil
        · go_simp
          refine hK.out _ _ ?_ (fun hHeld => ?_)
          · refine hSall.out _ ?_; repeat (first | assumption | exact Since.refl _ | refine Since.alloc ?_ _ | (refine Since.set ?_ ?_ _; rotate_left; first | exact Nat.le_refl _ | assumption | exact hby))
          clear hK K
          try simp only [Act.put, List.setIfInBounds_toArray, List.set_cons_zero, List.set_cons_succ]
          refine wpAnyH_ready (rs := [11]) (by kernel_rfl) (by simp) ?_
          refine AllReadyH.cons (o := { dst := none, op := Op.store 30 (Operand.tmp 5) (Operand.tmp 28), type := 0, pos := "law.go:88", after := #[{ on := 9, ground := Ground.data }, { on := 6, ground := Ground.data }, { on := 4, ground := Ground.chain }, { on := 0, ground := Ground.phase }, { on := 1, ground := Ground.phase }, { on := 2, ground := Ground.phase }, { on := 3, ground := Ground.phase }, { on := 4, ground := Ground.phase }, { on := 5, ground := Ground.phase }, { on := 6, ground := Ground.phase }, { on := 7, ground := Ground.textOnly Departure.lateStores }, { on := 8, ground := Ground.textOnly Departure.lateStores }, { on := 9, ground := Ground.phase }, { on := 10, ground := Ground.phase }], guard := none }) rfl (fun K hK => ?_) AllReadyH.nil
          · go_simp
            refine hK.out _ _ ?_ (fun hHeld => ?_)
            · refine hSall.out _ ?_; repeat (first | assumption | exact Since.refl _ | refine Since.alloc ?_ _ | (refine Since.set ?_ ?_ _; rotate_left; first | exact Nat.le_refl _ | assumption | exact hby))
            clear hK K
            try simp only [Act.put, List.setIfInBounds_toArray, List.set_cons_zero, List.set_cons_succ]
            refine wpAnyH_ready (rs := [12]) (by kernel_rfl) (by simp) ?_
            refine AllReadyH.cons (o := { dst := none, op := Op.store 30 (Operand.tmp 6) (Operand.tmp 29), type := 0, pos := "law.go:88", after := #[{ on := 10, ground := Ground.data }, { on := 7, ground := Ground.data }, { on := 11, ground := Ground.chain }, { on := 0, ground := Ground.phase }, { on := 1, ground := Ground.phase }, { on := 2, ground := Ground.phase }, { on := 3, ground := Ground.phase }, { on := 4, ground := Ground.phase }, { on := 5, ground := Ground.phase }, { on := 6, ground := Ground.phase }, { on := 7, ground := Ground.phase }, { on := 8, ground := Ground.textOnly Departure.lateStores }, { on := 9, ground := Ground.phase }, { on := 10, ground := Ground.phase }, { on := 11, ground := Ground.phase }], guard := none }) rfl (fun K hK => ?_) AllReadyH.nil
            · go_simp
              refine hK.out _ _ ?_ (fun hHeld => ?_)
              · refine hSall.out _ ?_; repeat (first | assumption | exact Since.refl _ | refine Since.alloc ?_ _ | (refine Since.set ?_ ?_ _; rotate_left; first | exact Nat.le_refl _ | assumption | exact hby))
              clear hK K
              try simp only [Act.put, List.setIfInBounds_toArray, List.set_cons_zero, List.set_cons_succ]
              refine' wpAnyH_take (i := 13) (oi := { dst := some 7, op := Op.assign (Operand.tmp 30), type := 27, pos := "law.go:88", after := #[{ on := 8, ground := Ground.data }, { on := 12, ground := Ground.chain }, { on := 0, ground := Ground.phase }, { on := 1, ground := Ground.phase }, { on := 2, ground := Ground.phase }, { on := 3, ground := Ground.phase }, { on := 4, ground := Ground.phase }, { on := 5, ground := Ground.phase }, { on := 6, ground := Ground.phase }, { on := 7, ground := Ground.phase }, { on := 8, ground := Ground.phase }, { on := 9, ground := Ground.phase }, { on := 10, ground := Ground.phase }, { on := 11, ground := Ground.phase }, { on := 12, ground := Ground.phase }], guard := none }) (v := _) rfl (by kernel_rfl) (by kernel_rfl) (by kernel_rfl) (fun _ _ _ h => h) (Or.inl ⟨by rfl, ?hy7⟩) (by assumption) ?rest7
              case hy7 => (intro w' ss; (try dsimp only at ss); go_simp; first | done | with_reducible rfl)
              try simp only [Act.put, List.setIfInBounds_toArray, List.set_cons_zero, List.set_cons_succ]
              refine wpAnyH_done (by kernel_rfl) ?_ _
              refine NoPanic.normal ?_
              go_wp2_with fail
              go_meet
              refine ⟨_, _, A1, q1, A2, q2, rfl, rfl, rfl, ?_, ?_, ?_, ⟨?_, ?_⟩, ⟨?_, ?_⟩⟩
              · repeat (first | assumption | exact Since.refl _ | refine Since.alloc ?_ _ | (refine Since.set ?_ ?_ _; rotate_left; first | exact Nat.le_refl _ | assumption | exact hby))
              · repeat (first | exact r1 | refine Row.since ?_ (since_alloc _ _) | (refine Law03.row_put0 ?_ ?_; rotate_left; (focus (go_simp; done))) | (refine Law03.row_put1 ?_ ?_; rotate_left; (focus (go_simp; done))))
              · repeat (first | exact r2 | refine Row.since ?_ (since_alloc _ _) | (refine Law03.row_put0 ?_ ?_; rotate_left; (focus (go_simp; done))) | (refine Law03.row_put1 ?_ ?_; rotate_left; (focus (go_simp; done))))
              · go_simp
              · go_simp
              · go_simp
              · go_simp
      · go_simp
        refine hK.out _ _ ?_ (fun hHeld => ?_)
        · refine hSall.out _ ?_; repeat (first | assumption | exact Since.refl _ | refine Since.alloc ?_ _ | (refine Since.set ?_ ?_ _; rotate_left; first | exact Nat.le_refl _ | assumption | exact hby))
        clear hK K
        try simp only [Act.put, List.setIfInBounds_toArray, List.set_cons_zero, List.set_cons_succ]
        refine wpAnyH_ready (rs := [9]) (by kernel_rfl) (by simp) ?_
        refine AllReadyH.cons (o := { dst := some 5, op := Op.alloc 30, type := 0, pos := "law.go:88", after := #[], guard := none }) rfl (fun K hK => ?_) AllReadyH.nil
        · go_simp
          refine hK.out _ _ ?_ (fun hHeld => ?_)
          · refine hSall.out _ ?_; repeat (first | assumption | exact Since.refl _ | refine Since.alloc ?_ _ | (refine Since.set ?_ ?_ _; rotate_left; first | exact Nat.le_refl _ | assumption | exact hby))
          clear hK K
          try simp only [Act.put, List.setIfInBounds_toArray, List.set_cons_zero, List.set_cons_succ]
          refine wpAnyH_ready (rs := [11]) (by kernel_rfl) (by simp) ?_
          refine AllReadyH.cons (o := { dst := none, op := Op.store 30 (Operand.tmp 5) (Operand.tmp 28), type := 0, pos := "law.go:88", after := #[{ on := 9, ground := Ground.data }, { on := 6, ground := Ground.data }, { on := 4, ground := Ground.chain }, { on := 0, ground := Ground.phase }, { on := 1, ground := Ground.phase }, { on := 2, ground := Ground.phase }, { on := 3, ground := Ground.phase }, { on := 4, ground := Ground.phase }, { on := 5, ground := Ground.phase }, { on := 6, ground := Ground.phase }, { on := 7, ground := Ground.textOnly Departure.lateStores }, { on := 8, ground := Ground.textOnly Departure.lateStores }, { on := 9, ground := Ground.phase }, { on := 10, ground := Ground.phase }], guard := none }) rfl (fun K hK => ?_) AllReadyH.nil
          · go_simp
            refine hK.out _ _ ?_ (fun hHeld => ?_)
            · refine hSall.out _ ?_; repeat (first | assumption | exact Since.refl _ | refine Since.alloc ?_ _ | (refine Since.set ?_ ?_ _; rotate_left; first | exact Nat.le_refl _ | assumption | exact hby))
            clear hK K
            try simp only [Act.put, List.setIfInBounds_toArray, List.set_cons_zero, List.set_cons_succ]
            refine wpAnyH_ready (rs := [12]) (by kernel_rfl) (by simp) ?_
            refine AllReadyH.cons (o := { dst := none, op := Op.store 30 (Operand.tmp 6) (Operand.tmp 29), type := 0, pos := "law.go:88", after := #[{ on := 10, ground := Ground.data }, { on := 7, ground := Ground.data }, { on := 11, ground := Ground.chain }, { on := 0, ground := Ground.phase }, { on := 1, ground := Ground.phase }, { on := 2, ground := Ground.phase }, { on := 3, ground := Ground.phase }, { on := 4, ground := Ground.phase }, { on := 5, ground := Ground.phase }, { on := 6, ground := Ground.phase }, { on := 7, ground := Ground.phase }, { on := 8, ground := Ground.textOnly Departure.lateStores }, { on := 9, ground := Ground.phase }, { on := 10, ground := Ground.phase }, { on := 11, ground := Ground.phase }], guard := none }) rfl (fun K hK => ?_) AllReadyH.nil
            · go_simp
              refine hK.out _ _ ?_ (fun hHeld => ?_)
              · refine hSall.out _ ?_; repeat (first | assumption | exact Since.refl _ | refine Since.alloc ?_ _ | (refine Since.set ?_ ?_ _; rotate_left; first | exact Nat.le_refl _ | assumption | exact hby))
              clear hK K
              try simp only [Act.put, List.setIfInBounds_toArray, List.set_cons_zero, List.set_cons_succ]
              refine' wpAnyH_take (i := 13) (oi := { dst := some 7, op := Op.assign (Operand.tmp 30), type := 27, pos := "law.go:88", after := #[{ on := 8, ground := Ground.data }, { on := 12, ground := Ground.chain }, { on := 0, ground := Ground.phase }, { on := 1, ground := Ground.phase }, { on := 2, ground := Ground.phase }, { on := 3, ground := Ground.phase }, { on := 4, ground := Ground.phase }, { on := 5, ground := Ground.phase }, { on := 6, ground := Ground.phase }, { on := 7, ground := Ground.phase }, { on := 8, ground := Ground.phase }, { on := 9, ground := Ground.phase }, { on := 10, ground := Ground.phase }, { on := 11, ground := Ground.phase }, { on := 12, ground := Ground.phase }], guard := none }) (v := _) rfl (by kernel_rfl) (by kernel_rfl) (by kernel_rfl) (fun _ _ _ h => h) (Or.inl ⟨by rfl, ?hy8⟩) (by assumption) ?rest8
              case hy8 => (intro w' ss; (try dsimp only at ss); go_simp; first | done | with_reducible rfl)
              try simp only [Act.put, List.setIfInBounds_toArray, List.set_cons_zero, List.set_cons_succ]
              refine wpAnyH_done (by kernel_rfl) ?_ _
              refine NoPanic.normal ?_
              go_wp2_with fail
              go_meet
              refine ⟨_, _, A1, q1, A2, q2, rfl, rfl, rfl, ?_, ?_, ?_, ⟨?_, ?_⟩, ⟨?_, ?_⟩⟩
              · repeat (first | assumption | exact Since.refl _ | refine Since.alloc ?_ _ | (refine Since.set ?_ ?_ _; rotate_left; first | exact Nat.le_refl _ | assumption | exact hby))
              · repeat (first | exact r1 | refine Row.since ?_ (since_alloc _ _) | (refine Law03.row_put0 ?_ ?_; rotate_left; (focus (go_simp; done))) | (refine Law03.row_put1 ?_ ?_; rotate_left; (focus (go_simp; done))))
              · repeat (first | exact r2 | refine Row.since ?_ (since_alloc _ _) | (refine Law03.row_put0 ?_ ?_; rotate_left; (focus (go_simp; done))) | (refine Law03.row_put1 ?_ ?_; rotate_left; (focus (go_simp; done))))
              · go_simp
              · go_simp
              · go_simp
              · go_simp
    · go_simp
      refine hK.out _ _ ?_ (since_alloc _ _) ?_
      · exact hSall.out _ ((hr0.trans (since_alloc _ _)))
      clear hK K
      try simp only [Act.put, List.setIfInBounds_toArray, List.set_cons_zero, List.set_cons_succ]
      have Z9 := Law03.Zero.fresh wq1 30
      have hb9 := hr0.size
      have hr0 := hr0.trans (since_alloc wq1 (.cells #[.bool false, .slice none 0 0] 30))
      refine Reg.wpG_ready (rs := [4, 10]) (by kernel_rfl) (by simp) (fun wq2 k2' sq2 => ?_)
      have hr0 := hr0.trans k2'
      have Z9 := Z9.since k2'
      refine Reg.AllG.last (o := { dst := some 27, op := Op.call { callee := Callee.value (Operand.func 28), args := #[Operand.tmp 24, Operand.tmp 26], argTypes := #[30, 30] }, type := 51, pos := "law.go:88", after := #[{ on := 1, ground := Ground.data }, { on := 3, ground := Ground.data }, { on := 3, ground := Ground.chain }], guard := none }) rfl (by rfl) (fun K hK => ?_) (Reg.AllG.first (o := { dst := some 6, op := Op.alloc 30, type := 0, pos := "law.go:88", after := #[], guard := none }) rfl (by rfl) (fun K hK => ?_) Reg.AllG.nil)
      · go_simp
        (with_reducible refine (divq a0 a1 cap0 cap1 b0 b1 d0 d1 wq2 (R0.out.since (hS0.trans (hZ.trans hr0))) (R1.out.since (hS0.trans (hZ.trans hr0))) M0.out M1.out E1.out).mono ?_)
        rintro e y ⟨A1, q1, A2, q2, rfl, r1, r2, hx⟩
        have hr0 := hr0.trans hx
        have hby := hr0.size
        have Z9 := Z9.since hx
        refine hK.out _ _ ?_ (fun hHeld => ?_)
        · exact hSall.out _ (hr0)
        clear hK K
        try simp only [Act.put, List.setIfInBounds_toArray, List.set_cons_zero, List.set_cons_succ]
        have u9 : wq1.heap.size ≠ y.heap.size := Nat.ne_of_lt Z9.lt
        have u9' : y.heap.size ≠ wq1.heap.size := Ne.symm u9
        refine' wpAnyH_take (i := 5) (oi := { dst := some 22, op := Op.move (Operand.tmp 27), type := 51, pos := "law.go:88", after := #[{ on := 4, ground := Ground.data }], guard := none }) (v := _) rfl (by kernel_rfl) (by kernel_rfl) (by kernel_rfl) (fun _ _ _ h => h) (Or.inl ⟨by rfl, ?hy9⟩) (by assumption) ?rest9
        case hy9 => (intro w' ss; (try dsimp only at ss); go_simp; first | done | with_reducible rfl)
        try simp only [Act.put, List.setIfInBounds_toArray, List.set_cons_zero, List.set_cons_succ]
        refine' wpAnyH_take (i := 6) (oi := { dst := some 28, op := Op.extract (Operand.tmp 22) 0, type := 30, pos := "law.go:88", after := #[{ on := 5, ground := Ground.data }], guard := none }) (v := _) rfl (by kernel_rfl) (by kernel_rfl) (by kernel_rfl) (fun _ _ _ h => h) (Or.inl ⟨by rfl, ?hy10⟩) (by assumption) ?rest10
        case hy10 => (intro w' ss; (try dsimp only at ss); go_simp; first | done | with_reducible rfl)
        try simp only [Act.put, List.setIfInBounds_toArray, List.set_cons_zero, List.set_cons_succ]
        refine' wpAnyH_take (i := 7) (oi := { dst := some 29, op := Op.extract (Operand.tmp 22) 1, type := 30, pos := "law.go:88", after := #[{ on := 5, ground := Ground.data }, { on := 11, ground := Ground.gcOnly Departure.lateStores }], guard := none }) (v := _) rfl (by kernel_rfl) (by kernel_rfl) (by kernel_rfl) (fun _ _ _ h => h) (Or.inl ⟨by rfl, ?hy11⟩) (by assumption) ?rest11
        case hy11 => (intro w' ss; (try dsimp only at ss); go_simp; first | done | with_reducible rfl)
        try simp only [Act.put, List.setIfInBounds_toArray, List.set_cons_zero, List.set_cons_succ]
        refine' wpAnyH_take (i := 8) (oi := { dst := some 30, op := Op.extract (Operand.tmp 22) 2, type := 27, pos := "law.go:88", after := #[{ on := 5, ground := Ground.data }, { on := 12, ground := Ground.gcOnly Departure.lateStores }], guard := none }) (v := _) rfl (by kernel_rfl) (by kernel_rfl) (by kernel_rfl) (fun _ _ _ h => h) (Or.inl ⟨by rfl, ?hy12⟩) (by assumption) ?rest12
        case hy12 => (intro w' ss; (try dsimp only at ss); go_simp; first | done | with_reducible rfl)
        try simp only [Act.put, List.setIfInBounds_toArray, List.set_cons_zero, List.set_cons_succ]
        refine wpAnyH_ready (rs := [10]) (by kernel_rfl) (by simp) ?_
        refine AllReadyH.cons (o := { dst := some 6, op := Op.alloc 30, type := 0, pos := "law.go:88", after := #[], guard := none }) rfl (fun K hK => ?_) AllReadyH.nil
        · go_simp
          refine hK.out _ _ ?_ (fun hHeld => ?_)
          · refine hSall.out _ ?_; repeat (first | assumption | exact Since.refl _ | refine Since.alloc ?_ _ | (refine Since.set ?_ ?_ _; rotate_left; first | exact Nat.le_refl _ | assumption | exact hby))
          clear hK K
          try simp only [Act.put, List.setIfInBounds_toArray, List.set_cons_zero, List.set_cons_succ]
          refine wpAnyH_ready (rs := [11]) (by kernel_rfl) (by simp) ?_
          refine AllReadyH.cons (o := { dst := none, op := Op.store 30 (Operand.tmp 5) (Operand.tmp 28), type := 0, pos := "law.go:88", after := #[{ on := 9, ground := Ground.data }, { on := 6, ground := Ground.data }, { on := 4, ground := Ground.chain }, { on := 0, ground := Ground.phase }, { on := 1, ground := Ground.phase }, { on := 2, ground := Ground.phase }, { on := 3, ground := Ground.phase }, { on := 4, ground := Ground.phase }, { on := 5, ground := Ground.phase }, { on := 6, ground := Ground.phase }, { on := 7, ground := Ground.textOnly Departure.lateStores }, { on := 8, ground := Ground.textOnly Departure.lateStores }, { on := 9, ground := Ground.phase }, { on := 10, ground := Ground.phase }], guard := none }) rfl (fun K hK => ?_) AllReadyH.nil
          · have z9a : ∀ o0, (y.alloc o0).cell? ⟨wq1.heap.size, 0, none⟩ = some (.bool false) := fun o0 => (Z9.since (since_alloc y o0)).1
            have z9b : ∀ o0, (y.alloc o0).cell? ⟨wq1.heap.size, 1, none⟩ = some (.slice none 0 0) := fun o0 => (Z9.since (since_alloc y o0)).2.1
            have z9c : ∀ o0, (y.alloc o0).frozen? ⟨wq1.heap.size, 0, none⟩ = false := fun o0 => (Z9.since (since_alloc y o0)).2.2.1
            have z9d : ∀ o0, (y.alloc o0).frozen? ⟨wq1.heap.size, 1, none⟩ = false := fun o0 => (Z9.since (since_alloc y o0)).2.2.2
            go_simp
            refine hK.out _ _ ?_ (fun hHeld => ?_)
            · refine hSall.out _ ?_; repeat (first | assumption | exact Since.refl _ | refine Since.alloc ?_ _ | (refine Since.set ?_ ?_ _; rotate_left; first | exact Nat.le_refl _ | assumption | exact hb9 | exact hby))
            clear hK K
            try simp only [Act.put, List.setIfInBounds_toArray, List.set_cons_zero, List.set_cons_succ]
            refine wpAnyH_ready (rs := [12]) (by kernel_rfl) (by simp) ?_
            refine AllReadyH.cons (o := { dst := none, op := Op.store 30 (Operand.tmp 6) (Operand.tmp 29), type := 0, pos := "law.go:88", after := #[{ on := 10, ground := Ground.data }, { on := 7, ground := Ground.data }, { on := 11, ground := Ground.chain }, { on := 0, ground := Ground.phase }, { on := 1, ground := Ground.phase }, { on := 2, ground := Ground.phase }, { on := 3, ground := Ground.phase }, { on := 4, ground := Ground.phase }, { on := 5, ground := Ground.phase }, { on := 6, ground := Ground.phase }, { on := 7, ground := Ground.phase }, { on := 8, ground := Ground.textOnly Departure.lateStores }, { on := 9, ground := Ground.phase }, { on := 10, ground := Ground.phase }, { on := 11, ground := Ground.phase }], guard := none }) rfl (fun K hK => ?_) AllReadyH.nil
            · go_simp
              refine hK.out _ _ ?_ (fun hHeld => ?_)
              · refine hSall.out _ ?_; repeat (first | assumption | exact Since.refl _ | refine Since.alloc ?_ _ | (refine Since.set ?_ ?_ _; rotate_left; first | exact Nat.le_refl _ | assumption | exact hb9 | exact hby))
              clear hK K
              try simp only [Act.put, List.setIfInBounds_toArray, List.set_cons_zero, List.set_cons_succ]
              refine' wpAnyH_take (i := 13) (oi := { dst := some 7, op := Op.assign (Operand.tmp 30), type := 27, pos := "law.go:88", after := #[{ on := 8, ground := Ground.data }, { on := 12, ground := Ground.chain }, { on := 0, ground := Ground.phase }, { on := 1, ground := Ground.phase }, { on := 2, ground := Ground.phase }, { on := 3, ground := Ground.phase }, { on := 4, ground := Ground.phase }, { on := 5, ground := Ground.phase }, { on := 6, ground := Ground.phase }, { on := 7, ground := Ground.phase }, { on := 8, ground := Ground.phase }, { on := 9, ground := Ground.phase }, { on := 10, ground := Ground.phase }, { on := 11, ground := Ground.phase }, { on := 12, ground := Ground.phase }], guard := none }) (v := _) rfl (by kernel_rfl) (by kernel_rfl) (by kernel_rfl) (fun _ _ _ h => h) (Or.inl ⟨by rfl, ?hy13⟩) (by assumption) ?rest13
              case hy13 => (intro w' ss; (try dsimp only at ss); go_simp; first | done | with_reducible rfl)
              try simp only [Act.put, List.setIfInBounds_toArray, List.set_cons_zero, List.set_cons_succ]
              refine wpAnyH_done (by kernel_rfl) ?_ _
              refine NoPanic.normal ?_
              go_wp2_with fail
              go_meet
              refine ⟨_, _, A1, q1, A2, q2, rfl, rfl, rfl, ?_, ?_, ?_, ⟨?_, ?_⟩, ⟨?_, ?_⟩⟩
              · repeat (first | assumption | exact Since.refl _ | refine Since.alloc ?_ _ | (refine Since.set ?_ ?_ _; rotate_left; first | exact Nat.le_refl _ | assumption | exact hb9 | exact hby))
              · repeat (first | exact r1 | refine Row.since ?_ (since_alloc _ _) | (refine Law03.row_put0 ?_ ?_; rotate_left; (focus (go_simp; done))) | (refine Law03.row_put1 ?_ ?_; rotate_left; (focus (go_simp; done))))
              · repeat (first | exact r2 | refine Row.since ?_ (since_alloc _ _) | (refine Law03.row_put0 ?_ ?_; rotate_left; (focus (go_simp; done))) | (refine Law03.row_put1 ?_ ?_; rotate_left; (focus (go_simp; done))))
              · go_simp
              · go_simp
              · go_simp
              · go_simp
      · go_simp
        refine hK.out _ _ ?_ (since_alloc _ _) ?_
        · exact hSall.out _ ((hr0.trans (since_alloc _ _)))
        clear hK K
        try simp only [Act.put, List.setIfInBounds_toArray, List.set_cons_zero, List.set_cons_succ]
        have q9 : wq1.heap.size ≠ wq2.heap.size := Nat.ne_of_lt Z9.lt
        have q9' : wq2.heap.size ≠ wq1.heap.size := Ne.symm q9
        have Z9 := Z9.since (since_alloc wq2 (.cells #[.bool false, .slice none 0 0] 30))
        have Z10 := Law03.Zero.fresh wq2 30
        have hb10 := hr0.size
        have hr0 := hr0.trans (since_alloc wq2 (.cells #[.bool false, .slice none 0 0] 30))
        refine Reg.wpG_ready (rs := [4]) (by kernel_rfl) (by simp) (fun wq3 k3' sq3 => ?_)
        have hr0 := hr0.trans k3'
        have Z9 := Z9.since k3'
        have Z10 := Z10.since k3'
        refine Reg.AllG.last (o := { dst := some 27, op := Op.call { callee := Callee.value (Operand.func 28), args := #[Operand.tmp 24, Operand.tmp 26], argTypes := #[30, 30] }, type := 51, pos := "law.go:88", after := #[{ on := 1, ground := Ground.data }, { on := 3, ground := Ground.data }, { on := 3, ground := Ground.chain }], guard := none }) rfl (by rfl) (fun K hK => ?_) Reg.AllG.nil
        · go_simp
          (with_reducible refine (divq a0 a1 cap0 cap1 b0 b1 d0 d1 wq3 (R0.out.since (hS0.trans (hZ.trans hr0))) (R1.out.since (hS0.trans (hZ.trans hr0))) M0.out M1.out E1.out).mono ?_)
          rintro e y ⟨A1, q1, A2, q2, rfl, r1, r2, hx⟩
          have hr0 := hr0.trans hx
          have hby := hr0.size
          have Z9 := Z9.since hx
          have Z10 := Z10.since hx
          refine hK.out _ _ ?_ (fun hHeld => ?_)
          · exact hSall.out _ (hr0)
          clear hK K
          try simp only [Act.put, List.setIfInBounds_toArray, List.set_cons_zero, List.set_cons_succ]
          have u9 : wq1.heap.size ≠ y.heap.size := Nat.ne_of_lt Z9.lt
          have u10 : wq2.heap.size ≠ y.heap.size := Nat.ne_of_lt Z10.lt
          have u9' : y.heap.size ≠ wq1.heap.size := Ne.symm u9
          have u10' : y.heap.size ≠ wq2.heap.size := Ne.symm u10
          refine' wpAnyH_take (i := 5) (oi := { dst := some 22, op := Op.move (Operand.tmp 27), type := 51, pos := "law.go:88", after := #[{ on := 4, ground := Ground.data }], guard := none }) (v := _) rfl (by kernel_rfl) (by kernel_rfl) (by kernel_rfl) (fun _ _ _ h => h) (Or.inl ⟨by rfl, ?hy14⟩) (by assumption) ?rest14
          case hy14 => (intro w' ss; (try dsimp only at ss); go_simp; first | done | with_reducible rfl)
          try simp only [Act.put, List.setIfInBounds_toArray, List.set_cons_zero, List.set_cons_succ]
          refine' wpAnyH_take (i := 6) (oi := { dst := some 28, op := Op.extract (Operand.tmp 22) 0, type := 30, pos := "law.go:88", after := #[{ on := 5, ground := Ground.data }], guard := none }) (v := _) rfl (by kernel_rfl) (by kernel_rfl) (by kernel_rfl) (fun _ _ _ h => h) (Or.inl ⟨by rfl, ?hy15⟩) (by assumption) ?rest15
          case hy15 => (intro w' ss; (try dsimp only at ss); go_simp; first | done | with_reducible rfl)
          try simp only [Act.put, List.setIfInBounds_toArray, List.set_cons_zero, List.set_cons_succ]
          refine' wpAnyH_take (i := 7) (oi := { dst := some 29, op := Op.extract (Operand.tmp 22) 1, type := 30, pos := "law.go:88", after := #[{ on := 5, ground := Ground.data }, { on := 11, ground := Ground.gcOnly Departure.lateStores }], guard := none }) (v := _) rfl (by kernel_rfl) (by kernel_rfl) (by kernel_rfl) (fun _ _ _ h => h) (Or.inl ⟨by rfl, ?hy16⟩) (by assumption) ?rest16
          case hy16 => (intro w' ss; (try dsimp only at ss); go_simp; first | done | with_reducible rfl)
          try simp only [Act.put, List.setIfInBounds_toArray, List.set_cons_zero, List.set_cons_succ]
          refine' wpAnyH_take (i := 8) (oi := { dst := some 30, op := Op.extract (Operand.tmp 22) 2, type := 27, pos := "law.go:88", after := #[{ on := 5, ground := Ground.data }, { on := 12, ground := Ground.gcOnly Departure.lateStores }], guard := none }) (v := _) rfl (by kernel_rfl) (by kernel_rfl) (by kernel_rfl) (fun _ _ _ h => h) (Or.inl ⟨by rfl, ?hy17⟩) (by assumption) ?rest17
          case hy17 => (intro w' ss; (try dsimp only at ss); go_simp; first | done | with_reducible rfl)
          try simp only [Act.put, List.setIfInBounds_toArray, List.set_cons_zero, List.set_cons_succ]
          refine wpAnyH_ready (rs := [11]) (by kernel_rfl) (by simp) ?_
          refine AllReadyH.cons (o := { dst := none, op := Op.store 30 (Operand.tmp 5) (Operand.tmp 28), type := 0, pos := "law.go:88", after := #[{ on := 9, ground := Ground.data }, { on := 6, ground := Ground.data }, { on := 4, ground := Ground.chain }, { on := 0, ground := Ground.phase }, { on := 1, ground := Ground.phase }, { on := 2, ground := Ground.phase }, { on := 3, ground := Ground.phase }, { on := 4, ground := Ground.phase }, { on := 5, ground := Ground.phase }, { on := 6, ground := Ground.phase }, { on := 7, ground := Ground.textOnly Departure.lateStores }, { on := 8, ground := Ground.textOnly Departure.lateStores }, { on := 9, ground := Ground.phase }, { on := 10, ground := Ground.phase }], guard := none }) rfl (fun K hK => ?_) AllReadyH.nil
          · obtain ⟨z9a, z9b, z9c, z9d⟩ := Z9
            obtain ⟨z10a, z10b, z10c, z10d⟩ := Z10
            go_simp
            refine hK.out _ _ ?_ (fun hHeld => ?_)
            · refine hSall.out _ ?_; repeat (first | assumption | exact Since.refl _ | refine Since.alloc ?_ _ | (refine Since.set ?_ ?_ _; rotate_left; first | exact Nat.le_refl _ | assumption | exact hb9 | exact hb10 | exact hby))
            clear hK K
            try simp only [Act.put, List.setIfInBounds_toArray, List.set_cons_zero, List.set_cons_succ]
            refine wpAnyH_ready (rs := [12]) (by kernel_rfl) (by simp) ?_
            refine AllReadyH.cons (o := { dst := none, op := Op.store 30 (Operand.tmp 6) (Operand.tmp 29), type := 0, pos := "law.go:88", after := #[{ on := 10, ground := Ground.data }, { on := 7, ground := Ground.data }, { on := 11, ground := Ground.chain }, { on := 0, ground := Ground.phase }, { on := 1, ground := Ground.phase }, { on := 2, ground := Ground.phase }, { on := 3, ground := Ground.phase }, { on := 4, ground := Ground.phase }, { on := 5, ground := Ground.phase }, { on := 6, ground := Ground.phase }, { on := 7, ground := Ground.phase }, { on := 8, ground := Ground.textOnly Departure.lateStores }, { on := 9, ground := Ground.phase }, { on := 10, ground := Ground.phase }, { on := 11, ground := Ground.phase }], guard := none }) rfl (fun K hK => ?_) AllReadyH.nil
            · go_simp
              refine hK.out _ _ ?_ (fun hHeld => ?_)
              · refine hSall.out _ ?_; repeat (first | assumption | exact Since.refl _ | refine Since.alloc ?_ _ | (refine Since.set ?_ ?_ _; rotate_left; first | exact Nat.le_refl _ | assumption | exact hb9 | exact hb10 | exact hby))
              clear hK K
              try simp only [Act.put, List.setIfInBounds_toArray, List.set_cons_zero, List.set_cons_succ]
              refine' wpAnyH_take (i := 13) (oi := { dst := some 7, op := Op.assign (Operand.tmp 30), type := 27, pos := "law.go:88", after := #[{ on := 8, ground := Ground.data }, { on := 12, ground := Ground.chain }, { on := 0, ground := Ground.phase }, { on := 1, ground := Ground.phase }, { on := 2, ground := Ground.phase }, { on := 3, ground := Ground.phase }, { on := 4, ground := Ground.phase }, { on := 5, ground := Ground.phase }, { on := 6, ground := Ground.phase }, { on := 7, ground := Ground.phase }, { on := 8, ground := Ground.phase }, { on := 9, ground := Ground.phase }, { on := 10, ground := Ground.phase }, { on := 11, ground := Ground.phase }, { on := 12, ground := Ground.phase }], guard := none }) (v := _) rfl (by kernel_rfl) (by kernel_rfl) (by kernel_rfl) (fun _ _ _ h => h) (Or.inl ⟨by rfl, ?hy18⟩) (by assumption) ?rest18
              case hy18 => (intro w' ss; (try dsimp only at ss); go_simp; first | done | with_reducible rfl)
              try simp only [Act.put, List.setIfInBounds_toArray, List.set_cons_zero, List.set_cons_succ]
              refine wpAnyH_done (by kernel_rfl) ?_ _
              refine NoPanic.normal ?_
              go_wp2_with fail
              go_meet
              refine ⟨_, _, A1, q1, A2, q2, rfl, rfl, rfl, ?_, ?_, ?_, ⟨?_, ?_⟩, ⟨?_, ?_⟩⟩
              · repeat (first | assumption | exact Since.refl _ | refine Since.alloc ?_ _ | (refine Since.set ?_ ?_ _; rotate_left; first | exact Nat.le_refl _ | assumption | exact hb9 | exact hb10 | exact hby))
              · repeat (first | exact r1 | refine Row.since ?_ (since_alloc _ _) | (refine Law03.row_put0 ?_ ?_; rotate_left; (focus (go_simp; done))) | (refine Law03.row_put1 ?_ ?_; rotate_left; (focus (go_simp; done))))
              · repeat (first | exact r2 | refine Row.since ?_ (since_alloc _ _) | (refine Law03.row_put0 ?_ ?_; rotate_left; (focus (go_simp; done))) | (refine Law03.row_put1 ?_ ?_; rotate_left; (focus (go_simp; done))))
              · go_simp
              · go_simp
              · go_simp
              · go_simp
    · go_simp
      refine hK.out _ _ ?_ (since_alloc _ _) ?_
      · exact hSall.out _ ((hr0.trans (since_alloc _ _)))
      clear hK K
      try simp only [Act.put, List.setIfInBounds_toArray, List.set_cons_zero, List.set_cons_succ]
      have Z10 := Law03.Zero.fresh wq1 30
      have hb10 := hr0.size
      have hr0 := hr0.trans (since_alloc wq1 (.cells #[.bool false, .slice none 0 0] 30))
      refine Reg.wpG_ready (rs := [4, 9]) (by kernel_rfl) (by simp) (fun wq2 k2' sq2 => ?_)
      have hr0 := hr0.trans k2'
      have Z10 := Z10.since k2'
      refine Reg.AllG.last (o := { dst := some 27, op := Op.call { callee := Callee.value (Operand.func 28), args := #[Operand.tmp 24, Operand.tmp 26], argTypes := #[30, 30] }, type := 51, pos := "law.go:88", after := #[{ on := 1, ground := Ground.data }, { on := 3, ground := Ground.data }, { on := 3, ground := Ground.chain }], guard := none }) rfl (by rfl) (fun K hK => ?_) (Reg.AllG.first (o := { dst := some 5, op := Op.alloc 30, type := 0, pos := "law.go:88", after := #[], guard := none }) rfl (by rfl) (fun K hK => ?_) Reg.AllG.nil)
      · go_simp
        (with_reducible refine (divq a0 a1 cap0 cap1 b0 b1 d0 d1 wq2 (R0.out.since (hS0.trans (hZ.trans hr0))) (R1.out.since (hS0.trans (hZ.trans hr0))) M0.out M1.out E1.out).mono ?_)
        rintro e y ⟨A1, q1, A2, q2, rfl, r1, r2, hx⟩
        have hr0 := hr0.trans hx
        have hby := hr0.size
        have Z10 := Z10.since hx
        refine hK.out _ _ ?_ (fun hHeld => ?_)
        · exact hSall.out _ (hr0)
        clear hK K
        try simp only [Act.put, List.setIfInBounds_toArray, List.set_cons_zero, List.set_cons_succ]
        have u10 : wq1.heap.size ≠ y.heap.size := Nat.ne_of_lt Z10.lt
        have u10' : y.heap.size ≠ wq1.heap.size := Ne.symm u10
        refine' wpAnyH_take (i := 5) (oi := { dst := some 22, op := Op.move (Operand.tmp 27), type := 51, pos := "law.go:88", after := #[{ on := 4, ground := Ground.data }], guard := none }) (v := _) rfl (by kernel_rfl) (by kernel_rfl) (by kernel_rfl) (fun _ _ _ h => h) (Or.inl ⟨by rfl, ?hy19⟩) (by assumption) ?rest19
        case hy19 => (intro w' ss; (try dsimp only at ss); go_simp; first | done | with_reducible rfl)
        try simp only [Act.put, List.setIfInBounds_toArray, List.set_cons_zero, List.set_cons_succ]
        refine' wpAnyH_take (i := 6) (oi := { dst := some 28, op := Op.extract (Operand.tmp 22) 0, type := 30, pos := "law.go:88", after := #[{ on := 5, ground := Ground.data }], guard := none }) (v := _) rfl (by kernel_rfl) (by kernel_rfl) (by kernel_rfl) (fun _ _ _ h => h) (Or.inl ⟨by rfl, ?hy20⟩) (by assumption) ?rest20
        case hy20 => (intro w' ss; (try dsimp only at ss); go_simp; first | done | with_reducible rfl)
        try simp only [Act.put, List.setIfInBounds_toArray, List.set_cons_zero, List.set_cons_succ]
        refine' wpAnyH_take (i := 7) (oi := { dst := some 29, op := Op.extract (Operand.tmp 22) 1, type := 30, pos := "law.go:88", after := #[{ on := 5, ground := Ground.data }, { on := 11, ground := Ground.gcOnly Departure.lateStores }], guard := none }) (v := _) rfl (by kernel_rfl) (by kernel_rfl) (by kernel_rfl) (fun _ _ _ h => h) (Or.inl ⟨by rfl, ?hy21⟩) (by assumption) ?rest21
        case hy21 => (intro w' ss; (try dsimp only at ss); go_simp; first | done | with_reducible rfl)
        try simp only [Act.put, List.setIfInBounds_toArray, List.set_cons_zero, List.set_cons_succ]
        refine' wpAnyH_take (i := 8) (oi := { dst := some 30, op := Op.extract (Operand.tmp 22) 2, type := 27, pos := "law.go:88", after := #[{ on := 5, ground := Ground.data }, { on := 12, ground := Ground.gcOnly Departure.lateStores }], guard := none }) (v := _) rfl (by kernel_rfl) (by kernel_rfl) (by kernel_rfl) (fun _ _ _ h => h) (Or.inl ⟨by rfl, ?hy22⟩) (by assumption) ?rest22
        case hy22 => (intro w' ss; (try dsimp only at ss); go_simp; first | done | with_reducible rfl)
        try simp only [Act.put, List.setIfInBounds_toArray, List.set_cons_zero, List.set_cons_succ]
        refine wpAnyH_ready (rs := [9]) (by kernel_rfl) (by simp) ?_
        refine AllReadyH.cons (o := { dst := some 5, op := Op.alloc 30, type := 0, pos := "law.go:88", after := #[], guard := none }) rfl (fun K hK => ?_) AllReadyH.nil
        · go_simp
          refine hK.out _ _ ?_ (fun hHeld => ?_)
          · refine hSall.out _ ?_; repeat (first | assumption | exact Since.refl _ | refine Since.alloc ?_ _ | (refine Since.set ?_ ?_ _; rotate_left; first | exact Nat.le_refl _ | assumption | exact hby))
          clear hK K
          try simp only [Act.put, List.setIfInBounds_toArray, List.set_cons_zero, List.set_cons_succ]
          refine wpAnyH_ready (rs := [11]) (by kernel_rfl) (by simp) ?_
          refine AllReadyH.cons (o := { dst := none, op := Op.store 30 (Operand.tmp 5) (Operand.tmp 28), type := 0, pos := "law.go:88", after := #[{ on := 9, ground := Ground.data }, { on := 6, ground := Ground.data }, { on := 4, ground := Ground.chain }, { on := 0, ground := Ground.phase }, { on := 1, ground := Ground.phase }, { on := 2, ground := Ground.phase }, { on := 3, ground := Ground.phase }, { on := 4, ground := Ground.phase }, { on := 5, ground := Ground.phase }, { on := 6, ground := Ground.phase }, { on := 7, ground := Ground.textOnly Departure.lateStores }, { on := 8, ground := Ground.textOnly Departure.lateStores }, { on := 9, ground := Ground.phase }, { on := 10, ground := Ground.phase }], guard := none }) rfl (fun K hK => ?_) AllReadyH.nil
          · have z10a : ∀ o0, (y.alloc o0).cell? ⟨wq1.heap.size, 0, none⟩ = some (.bool false) := fun o0 => (Z10.since (since_alloc y o0)).1
            have z10b : ∀ o0, (y.alloc o0).cell? ⟨wq1.heap.size, 1, none⟩ = some (.slice none 0 0) := fun o0 => (Z10.since (since_alloc y o0)).2.1
            have z10c : ∀ o0, (y.alloc o0).frozen? ⟨wq1.heap.size, 0, none⟩ = false := fun o0 => (Z10.since (since_alloc y o0)).2.2.1
            have z10d : ∀ o0, (y.alloc o0).frozen? ⟨wq1.heap.size, 1, none⟩ = false := fun o0 => (Z10.since (since_alloc y o0)).2.2.2
            go_simp
            refine hK.out _ _ ?_ (fun hHeld => ?_)
            · refine hSall.out _ ?_; repeat (first | assumption | exact Since.refl _ | refine Since.alloc ?_ _ | (refine Since.set ?_ ?_ _; rotate_left; first | exact Nat.le_refl _ | assumption | exact hb10 | exact hby))
            clear hK K
            try simp only [Act.put, List.setIfInBounds_toArray, List.set_cons_zero, List.set_cons_succ]
            refine wpAnyH_ready (rs := [12]) (by kernel_rfl) (by simp) ?_
            refine AllReadyH.cons (o := { dst := none, op := Op.store 30 (Operand.tmp 6) (Operand.tmp 29), type := 0, pos := "law.go:88", after := #[{ on := 10, ground := Ground.data }, { on := 7, ground := Ground.data }, { on := 11, ground := Ground.chain }, { on := 0, ground := Ground.phase }, { on := 1, ground := Ground.phase }, { on := 2, ground := Ground.phase }, { on := 3, ground := Ground.phase }, { on := 4, ground := Ground.phase }, { on := 5, ground := Ground.phase }, { on := 6, ground := Ground.phase }, { on := 7, ground := Ground.phase }, { on := 8, ground := Ground.textOnly Departure.lateStores }, { on := 9, ground := Ground.phase }, { on := 10, ground := Ground.phase }, { on := 11, ground := Ground.phase }], guard := none }) rfl (fun K hK => ?_) AllReadyH.nil
            · go_simp
              refine hK.out _ _ ?_ (fun hHeld => ?_)
              · refine hSall.out _ ?_; repeat (first | assumption | exact Since.refl _ | refine Since.alloc ?_ _ | (refine Since.set ?_ ?_ _; rotate_left; first | exact Nat.le_refl _ | assumption | exact hb10 | exact hby))
              clear hK K
              try simp only [Act.put, List.setIfInBounds_toArray, List.set_cons_zero, List.set_cons_succ]
              refine' wpAnyH_take (i := 13) (oi := { dst := some 7, op := Op.assign (Operand.tmp 30), type := 27, pos := "law.go:88", after := #[{ on := 8, ground := Ground.data }, { on := 12, ground := Ground.chain }, { on := 0, ground := Ground.phase }, { on := 1, ground := Ground.phase }, { on := 2, ground := Ground.phase }, { on := 3, ground := Ground.phase }, { on := 4, ground := Ground.phase }, { on := 5, ground := Ground.phase }, { on := 6, ground := Ground.phase }, { on := 7, ground := Ground.phase }, { on := 8, ground := Ground.phase }, { on := 9, ground := Ground.phase }, { on := 10, ground := Ground.phase }, { on := 11, ground := Ground.phase }, { on := 12, ground := Ground.phase }], guard := none }) (v := _) rfl (by kernel_rfl) (by kernel_rfl) (by kernel_rfl) (fun _ _ _ h => h) (Or.inl ⟨by rfl, ?hy23⟩) (by assumption) ?rest23
              case hy23 => (intro w' ss; (try dsimp only at ss); go_simp; first | done | with_reducible rfl)
              try simp only [Act.put, List.setIfInBounds_toArray, List.set_cons_zero, List.set_cons_succ]
              refine wpAnyH_done (by kernel_rfl) ?_ _
              refine NoPanic.normal ?_
              go_wp2_with fail
              go_meet
              refine ⟨_, _, A1, q1, A2, q2, rfl, rfl, rfl, ?_, ?_, ?_, ⟨?_, ?_⟩, ⟨?_, ?_⟩⟩
              · repeat (first | assumption | exact Since.refl _ | refine Since.alloc ?_ _ | (refine Since.set ?_ ?_ _; rotate_left; first | exact Nat.le_refl _ | assumption | exact hb10 | exact hby))
              · repeat (first | exact r1 | refine Row.since ?_ (since_alloc _ _) | (refine Law03.row_put0 ?_ ?_; rotate_left; (focus (go_simp; done))) | (refine Law03.row_put1 ?_ ?_; rotate_left; (focus (go_simp; done))))
              · repeat (first | exact r2 | refine Row.since ?_ (since_alloc _ _) | (refine Law03.row_put0 ?_ ?_; rotate_left; (focus (go_simp; done))) | (refine Law03.row_put1 ?_ ?_; rotate_left; (focus (go_simp; done))))
              · go_simp
              · go_simp
              · go_simp
              · go_simp
      · go_simp
        refine hK.out _ _ ?_ (since_alloc _ _) ?_
        · exact hSall.out _ ((hr0.trans (since_alloc _ _)))
        clear hK K
        try simp only [Act.put, List.setIfInBounds_toArray, List.set_cons_zero, List.set_cons_succ]
        have q10 : wq1.heap.size ≠ wq2.heap.size := Nat.ne_of_lt Z10.lt
        have q10' : wq2.heap.size ≠ wq1.heap.size := Ne.symm q10
        have Z10 := Z10.since (since_alloc wq2 (.cells #[.bool false, .slice none 0 0] 30))
        have Z9 := Law03.Zero.fresh wq2 30
        have hb9 := hr0.size
        have hr0 := hr0.trans (since_alloc wq2 (.cells #[.bool false, .slice none 0 0] 30))
        refine Reg.wpG_ready (rs := [4]) (by kernel_rfl) (by simp) (fun wq3 k3' sq3 => ?_)
        have hr0 := hr0.trans k3'
        have Z10 := Z10.since k3'
        have Z9 := Z9.since k3'
        refine Reg.AllG.last (o := { dst := some 27, op := Op.call { callee := Callee.value (Operand.func 28), args := #[Operand.tmp 24, Operand.tmp 26], argTypes := #[30, 30] }, type := 51, pos := "law.go:88", after := #[{ on := 1, ground := Ground.data }, { on := 3, ground := Ground.data }, { on := 3, ground := Ground.chain }], guard := none }) rfl (by rfl) (fun K hK => ?_) Reg.AllG.nil
        · go_simp
          (with_reducible refine (divq a0 a1 cap0 cap1 b0 b1 d0 d1 wq3 (R0.out.since (hS0.trans (hZ.trans hr0))) (R1.out.since (hS0.trans (hZ.trans hr0))) M0.out M1.out E1.out).mono ?_)
          rintro e y ⟨A1, q1, A2, q2, rfl, r1, r2, hx⟩
          have hr0 := hr0.trans hx
          have hby := hr0.size
          have Z10 := Z10.since hx
          have Z9 := Z9.since hx
          refine hK.out _ _ ?_ (fun hHeld => ?_)
          · exact hSall.out _ (hr0)
          clear hK K
          try simp only [Act.put, List.setIfInBounds_toArray, List.set_cons_zero, List.set_cons_succ]
          have u10 : wq1.heap.size ≠ y.heap.size := Nat.ne_of_lt Z10.lt
          have u9 : wq2.heap.size ≠ y.heap.size := Nat.ne_of_lt Z9.lt
          have u10' : y.heap.size ≠ wq1.heap.size := Ne.symm u10
          have u9' : y.heap.size ≠ wq2.heap.size := Ne.symm u9
          refine' wpAnyH_take (i := 5) (oi := { dst := some 22, op := Op.move (Operand.tmp 27), type := 51, pos := "law.go:88", after := #[{ on := 4, ground := Ground.data }], guard := none }) (v := _) rfl (by kernel_rfl) (by kernel_rfl) (by kernel_rfl) (fun _ _ _ h => h) (Or.inl ⟨by rfl, ?hy24⟩) (by assumption) ?rest24
          case hy24 => (intro w' ss; (try dsimp only at ss); go_simp; first | done | with_reducible rfl)
          try simp only [Act.put, List.setIfInBounds_toArray, List.set_cons_zero, List.set_cons_succ]
          refine' wpAnyH_take (i := 6) (oi := { dst := some 28, op := Op.extract (Operand.tmp 22) 0, type := 30, pos := "law.go:88", after := #[{ on := 5, ground := Ground.data }], guard := none }) (v := _) rfl (by kernel_rfl) (by kernel_rfl) (by kernel_rfl) (fun _ _ _ h => h) (Or.inl ⟨by rfl, ?hy25⟩) (by assumption) ?rest25
          case hy25 => (intro w' ss; (try dsimp only at ss); go_simp; first | done | with_reducible rfl)
          try simp only [Act.put, List.setIfInBounds_toArray, List.set_cons_zero, List.set_cons_succ]
          refine' wpAnyH_take (i := 7) (oi := { dst := some 29, op := Op.extract (Operand.tmp 22) 1, type := 30, pos := "law.go:88", after := #[{ on := 5, ground := Ground.data }, { on := 11, ground := Ground.gcOnly Departure.lateStores }], guard := none }) (v := _) rfl (by kernel_rfl) (by kernel_rfl) (by kernel_rfl) (fun _ _ _ h => h) (Or.inl ⟨by rfl, ?hy26⟩) (by assumption) ?rest26
          case hy26 => (intro w' ss; (try dsimp only at ss); go_simp; first | done | with_reducible rfl)
          try simp only [Act.put, List.setIfInBounds_toArray, List.set_cons_zero, List.set_cons_succ]
          refine' wpAnyH_take (i := 8) (oi := { dst := some 30, op := Op.extract (Operand.tmp 22) 2, type := 27, pos := "law.go:88", after := #[{ on := 5, ground := Ground.data }, { on := 12, ground := Ground.gcOnly Departure.lateStores }], guard := none }) (v := _) rfl (by kernel_rfl) (by kernel_rfl) (by kernel_rfl) (fun _ _ _ h => h) (Or.inl ⟨by rfl, ?hy27⟩) (by assumption) ?rest27
          case hy27 => (intro w' ss; (try dsimp only at ss); go_simp; first | done | with_reducible rfl)
          try simp only [Act.put, List.setIfInBounds_toArray, List.set_cons_zero, List.set_cons_succ]
          refine wpAnyH_ready (rs := [11]) (by kernel_rfl) (by simp) ?_
          refine AllReadyH.cons (o := { dst := none, op := Op.store 30 (Operand.tmp 5) (Operand.tmp 28), type := 0, pos := "law.go:88", after := #[{ on := 9, ground := Ground.data }, { on := 6, ground := Ground.data }, { on := 4, ground := Ground.chain }, { on := 0, ground := Ground.phase }, { on := 1, ground := Ground.phase }, { on := 2, ground := Ground.phase }, { on := 3, ground := Ground.phase }, { on := 4, ground := Ground.phase }, { on := 5, ground := Ground.phase }, { on := 6, ground := Ground.phase }, { on := 7, ground := Ground.textOnly Departure.lateStores }, { on := 8, ground := Ground.textOnly Departure.lateStores }, { on := 9, ground := Ground.phase }, { on := 10, ground := Ground.phase }], guard := none }) rfl (fun K hK => ?_) AllReadyH.nil
          · obtain ⟨z10a, z10b, z10c, z10d⟩ := Z10
            obtain ⟨z9a, z9b, z9c, z9d⟩ := Z9
            go_simp
            refine hK.out _ _ ?_ (fun hHeld => ?_)
            · refine hSall.out _ ?_; repeat (first | assumption | exact Since.refl _ | refine Since.alloc ?_ _ | (refine Since.set ?_ ?_ _; rotate_left; first | exact Nat.le_refl _ | assumption | exact hb10 | exact hb9 | exact hby))
            clear hK K
            try simp only [Act.put, List.setIfInBounds_toArray, List.set_cons_zero, List.set_cons_succ]
            refine wpAnyH_ready (rs := [12]) (by kernel_rfl) (by simp) ?_
            refine AllReadyH.cons (o := { dst := none, op := Op.store 30 (Operand.tmp 6) (Operand.tmp 29), type := 0, pos := "law.go:88", after := #[{ on := 10, ground := Ground.data }, { on := 7, ground := Ground.data }, { on := 11, ground := Ground.chain }, { on := 0, ground := Ground.phase }, { on := 1, ground := Ground.phase }, { on := 2, ground := Ground.phase }, { on := 3, ground := Ground.phase }, { on := 4, ground := Ground.phase }, { on := 5, ground := Ground.phase }, { on := 6, ground := Ground.phase }, { on := 7, ground := Ground.phase }, { on := 8, ground := Ground.textOnly Departure.lateStores }, { on := 9, ground := Ground.phase }, { on := 10, ground := Ground.phase }, { on := 11, ground := Ground.phase }], guard := none }) rfl (fun K hK => ?_) AllReadyH.nil
            · go_simp
              refine hK.out _ _ ?_ (fun hHeld => ?_)
              · refine hSall.out _ ?_; repeat (first | assumption | exact Since.refl _ | refine Since.alloc ?_ _ | (refine Since.set ?_ ?_ _; rotate_left; first | exact Nat.le_refl _ | assumption | exact hb10 | exact hb9 | exact hby))
              clear hK K
              try simp only [Act.put, List.setIfInBounds_toArray, List.set_cons_zero, List.set_cons_succ]
              refine' wpAnyH_take (i := 13) (oi := { dst := some 7, op := Op.assign (Operand.tmp 30), type := 27, pos := "law.go:88", after := #[{ on := 8, ground := Ground.data }, { on := 12, ground := Ground.chain }, { on := 0, ground := Ground.phase }, { on := 1, ground := Ground.phase }, { on := 2, ground := Ground.phase }, { on := 3, ground := Ground.phase }, { on := 4, ground := Ground.phase }, { on := 5, ground := Ground.phase }, { on := 6, ground := Ground.phase }, { on := 7, ground := Ground.phase }, { on := 8, ground := Ground.phase }, { on := 9, ground := Ground.phase }, { on := 10, ground := Ground.phase }, { on := 11, ground := Ground.phase }, { on := 12, ground := Ground.phase }], guard := none }) (v := _) rfl (by kernel_rfl) (by kernel_rfl) (by kernel_rfl) (fun _ _ _ h => h) (Or.inl ⟨by rfl, ?hy28⟩) (by assumption) ?rest28
              case hy28 => (intro w' ss; (try dsimp only at ss); go_simp; first | done | with_reducible rfl)
              try simp only [Act.put, List.setIfInBounds_toArray, List.set_cons_zero, List.set_cons_succ]
              refine wpAnyH_done (by kernel_rfl) ?_ _
              refine NoPanic.normal ?_
              go_wp2_with fail
              go_meet
              refine ⟨_, _, A1, q1, A2, q2, rfl, rfl, rfl, ?_, ?_, ?_, ⟨?_, ?_⟩, ⟨?_, ?_⟩⟩
              · repeat (first | assumption | exact Since.refl _ | refine Since.alloc ?_ _ | (refine Since.set ?_ ?_ _; rotate_left; first | exact Nat.le_refl _ | assumption | exact hb10 | exact hb9 | exact hby))
              · repeat (first | exact r1 | refine Row.since ?_ (since_alloc _ _) | (refine Law03.row_put0 ?_ ?_; rotate_left; (focus (go_simp; done))) | (refine Law03.row_put1 ?_ ?_; rotate_left; (focus (go_simp; done))))
              · repeat (first | exact r2 | refine Row.since ?_ (since_alloc _ _) | (refine Law03.row_put0 ?_ ?_; rotate_left; (focus (go_simp; done))) | (refine Law03.row_put1 ?_ ?_; rotate_left; (focus (go_simp; done))))
              · go_simp
              · go_simp
              · go_simp
              · go_simp
  case rest =>
    obtain ⟨c0, c1, A1, q1, A2, q2, rfl, rfl, rfl, hc, r1, r2, ⟨g0, g1⟩, g2, g3⟩ := hcut
    have hS := hZ.trans hc
    have V0 : Hid (∀ W', Since wc W' → W'.cell? ⟨c0, 0, none⟩ = some (.bool n1) ∧ W'.cell? ⟨c0, 1, none⟩ = some (.slice A1 s1.length q1)) := fun W' h => ⟨Law03.stays g0 h, Law03.stays g1 h⟩
    have V1 : Hid (∀ W', Since wc W' → W'.cell? ⟨c1, 0, none⟩ = some (.bool n2) ∧ W'.cell? ⟨c1, 1, none⟩ = some (.slice A2 s2.length q2)) := fun W' h => ⟨Law03.stays g2 h, Law03.stays g3 h⟩
    clear g0 g1 g2 g3 hc hZ
    obtain ⟨⟨k0, k1, k2, k3⟩, _⟩ := hold.out _ hS
    have hK := Since.refl wc
    go_upto_region 7 with (first
      | (go_at_call 29; (with_reducible refine (rdivq a0 a1 cap0 cap1 b0 b1 d0 d1 _ (R0.out.since (hS0.trans hS)) (R1.out.since (hS0.trans hS)) M0.out M1.out E1.out).mono ?_); rintro e y1 ⟨A3, q3, A4, q4, rfl, r3, r4, h⟩; have hK := hK.trans h))
    obtain ⟨W3, hW3⟩ : ∃ W3, W3 = (y1.alloc (.cells #[.bool n1, .slice A3 s1.length q3] 24)).alloc (.cells #[.bool n2, .slice A4 s2.length q4] 24) := ⟨_, rfl⟩
    rw [← hW3]
    have V2 : Hid (∀ W', Since W3 W' → W'.cell? ⟨y1.heap.size, 0, none⟩ = some (.bool n1) ∧ W'.cell? ⟨y1.heap.size, 1, none⟩ = some (.slice A3 s1.length q3)) := fun W' h => by rw [hW3] at h; exact ⟨(keep2 ((since_alloc _ _).trans h)).1, (keep2 ((since_alloc _ _).trans h)).2.1⟩
    have V3 : Hid (∀ W', Since W3 W' → W'.cell? ⟨y1.heap.size + 1, 0, none⟩ = some (.bool n2) ∧ W'.cell? ⟨y1.heap.size + 1, 1, none⟩ = some (.slice A4 s2.length q4)) := fun W' h => by rw [hW3] at h; exact ⟨(Ref03.keep2of h).1, (Ref03.keep2of h).2.1⟩
    have hx : Since y1 W3 := by rw [hW3]; exact (since_alloc _ _).trans (since_alloc _ _)
    have hg := hK.trans hx
    have r1 := r1.since hg
    have r2 := r2.since hg
    have r3 := r3.since hx
    have r4 := r4.since hx
    have V0 : Hid (∀ W', Since W3 W' → _) := fun W' h => V0.out W' (hg.trans h)
    have V1 : Hid (∀ W', Since W3 W' → _) := fun W' h => V1.out W' (hg.trans h)
    have hS := hS.trans hg
    clear hW3 hx hg hK
    generalize y1.heap.size = bk2 at *
    have hK := Since.refl W3
    have hZ := hS
    obtain ⟨⟨k0, k1, k2, k3⟩, _⟩ := hold.out _ hZ
    go_cut [11, 12] (fun p11 p12 W => ∃ (c0 : Nat) (A5 : Option Addr) (q5 : Nat), p11 = .pointer (some ⟨c0, 0, none⟩) ∧ p12 = .int .i64 e3 ∧ Since W3 W ∧ Row W (.slice A5 s3.length q5) s3 ∧ (W.cell? ⟨c0, 0, none⟩ = some (.bool n3) ∧ W.cell? ⟨c0, 1, none⟩ = some (.slice A5 s3.length q5)))
    case first =>
      have hSall : Hid (∀ W : World, Since W3 W → W.cell? ⟨w.heap.size, 0, none⟩ = some (.bool b0) ∧ W.cell? ⟨w.heap.size, 1, none⟩ = some (.slice a0 d0.length cap0) ∧ W.cell? ⟨w.heap.size + 1, 0, none⟩ = some (.bool b1) ∧ W.cell? ⟨w.heap.size + 1, 1, none⟩ = some (.slice a1 d1.length cap1)) := fun W h => (hold.out _ (hZ.trans h)).1
      have hr0 : Since W3 W3.drew := Since.drew (Since.refl _)
      refine wp_region_noPanic ?_
      refine Reg.wp_region_G (S := fun W => W.cell? ⟨w.heap.size, 0, none⟩ = some (.bool b0) ∧ W.cell? ⟨w.heap.size, 1, none⟩ = some (.slice a0 d0.length cap0) ∧ W.cell? ⟨w.heap.size + 1, 0, none⟩ = some (.bool b1) ∧ W.cell? ⟨w.heap.size + 1, 1, none⟩ = some (.slice a1 d1.length cap1)) (fun j => [4, 5, 6, 7, 9, 10].contains j) (by kernel_rfl) ?_ ?_
      · exact hSall.out _ (hr0)
      refine' Reg.wpG_take (i := 0) (oi := { dst := some 39, op := Op.load 24 (Operand.tmp 2), type := 24, pos := "law.go:90", after := #[], guard := none }) (v := _) [1, 3, 4, 5, 6, 7, 9, 10] [4, 5, 6, 7, 9, 10] rfl rfl (by kernel_rfl) (by kernel_rfl) (by kernel_rfl) (by kernel_rfl) (by kernel_rfl) (by kernel_rfl) (by kernel_rfl) (fun _ _ _ h => h) (Or.inl ⟨by rfl, Or.inl ?hy29⟩) ?rest29
      case hy29 => (intro w' kk ss; (try dsimp only at ss); go_simp; first | done | with_reducible rfl)
      try simp only [Act.put, List.setIfInBounds_toArray, List.set_cons_zero, List.set_cons_succ]
      refine Reg.wpG_take (i := 1) (oi := { dst := some 40, op := Op.call { callee := Callee.value (Operand.func 12), args := #[Operand.tmp 39], argTypes := #[24] }, type := 30, pos := "law.go:90", after := #[{ on := 0, ground := Ground.data }], guard := none }) (v := sv b0 (.slice a0 d0.length cap0)) [3, 4, 5, 6, 7, 9, 10] [4, 5, 6, 7, 9, 10] rfl rfl (by kernel_rfl) (by kernel_rfl) (by kernel_rfl) (by kernel_rfl) (by kernel_rfl) (by kernel_rfl) (by kernel_rfl) (fun _ _ _ h => h) (Or.inl ⟨by rfl, Or.inr ⟨12, #[sv b0 (.slice a0 d0.length cap0)], fun w' kk ss => ⟨?_, ?_⟩⟩⟩) ?_
      · (try dsimp only at ss); go_simp
      · exact (Law03.theirs_any a0 d0.length cap0 b0 w').mono fun e w'' h => ⟨h.1, h.2, hSall.out _ ((hr0.trans (kk.trans h.2)))⟩
      try simp only [Act.put, List.setIfInBounds_toArray, List.set_cons_zero, List.set_cons_succ]
      refine' Reg.wpG_take (i := 2) (oi := { dst := some 41, op := Op.load 24 (Operand.tmp 3), type := 24, pos := "law.go:90", after := #[], guard := none }) (v := _) [3, 4, 5, 6, 7, 9, 10] [4, 5, 6, 7, 9, 10] rfl rfl (by kernel_rfl) (by kernel_rfl) (by kernel_rfl) (by kernel_rfl) (by kernel_rfl) (by kernel_rfl) (by kernel_rfl) (fun _ _ _ h => h) (Or.inl ⟨by rfl, Or.inl ?hy30⟩) ?rest30
      case hy30 => (intro w' kk ss; (try dsimp only at ss); go_simp; first | done | with_reducible rfl)
      try simp only [Act.put, List.setIfInBounds_toArray, List.set_cons_zero, List.set_cons_succ]
      refine Reg.wpG_take (i := 3) (oi := { dst := some 42, op := Op.call { callee := Callee.value (Operand.func 12), args := #[Operand.tmp 41], argTypes := #[24] }, type := 30, pos := "law.go:90", after := #[{ on := 2, ground := Ground.data }, { on := 1, ground := Ground.chain }], guard := none }) (v := sv b1 (.slice a1 d1.length cap1)) [4, 5, 6, 7, 9, 10] [4, 5, 6, 7, 9, 10] rfl rfl (by kernel_rfl) (by kernel_rfl) (by kernel_rfl) (by kernel_rfl) (by kernel_rfl) (by kernel_rfl) (by kernel_rfl) (fun _ _ _ h => h) (Or.inl ⟨by rfl, Or.inr ⟨12, #[sv b1 (.slice a1 d1.length cap1)], fun w' kk ss => ⟨?_, ?_⟩⟩⟩) ?_
      · (try dsimp only at ss); go_simp
      · exact (Law03.theirs_any a1 d1.length cap1 b1 w').mono fun e w'' h => ⟨h.1, h.2, hSall.out _ ((hr0.trans (kk.trans h.2)))⟩
      try simp only [Act.put, List.setIfInBounds_toArray, List.set_cons_zero, List.set_cons_succ]
      refine Reg.wpG_ready (rs := [4, 8]) (by kernel_rfl) (by simp) (fun wq1 k1' sq1 => ?_)
      have hr0 := hr0.trans k1'
      refine Reg.AllG.last (o := { dst := some 43, op := Op.call { callee := Callee.value (Operand.func 30), args := #[Operand.tmp 40, Operand.tmp 42], argTypes := #[30, 30] }, type := 45, pos := "law.go:90", after := #[{ on := 1, ground := Ground.data }, { on := 3, ground := Ground.data }, { on := 3, ground := Ground.chain }], guard := none }) rfl (by rfl) (fun K hK => ?_) (Reg.AllG.first (o := { dst := some 11, op := Op.alloc 30, type := 0, pos := "law.go:90", after := #[], guard := none }) rfl (by rfl) (fun K hK => ?_) Reg.AllG.nil)
      · go_simp
        (with_reducible refine (gcd_at a0 a1 cap0 cap1 b0 b1 d0 d1 wq1 (R0.out.since (hS0.trans (hZ.trans hr0))) (R1.out.since (hS0.trans (hZ.trans hr0))) M0.out M1.out E3.out).mono ?_)
        rintro e y ⟨A5, q5, rfl, r5, hx⟩
        have hr0 := hr0.trans hx
        have hby := hr0.size
        refine hK.out _ _ ?_ (fun hHeld => ?_)
        · exact hSall.out _ (hr0)
        clear hK K
        try simp only [Act.put, List.setIfInBounds_toArray, List.set_cons_zero, List.set_cons_succ]
        refine' wpAnyH_take (i := 5) (oi := { dst := some 38, op := Op.move (Operand.tmp 43), type := 45, pos := "law.go:90", after := #[{ on := 4, ground := Ground.data }], guard := none }) (v := _) rfl (by kernel_rfl) (by kernel_rfl) (by kernel_rfl) (fun _ _ _ h => h) (Or.inl ⟨by rfl, ?hy31⟩) (by assumption) ?rest31
        case hy31 => (intro w' ss; (try dsimp only at ss); go_simp; first | done | with_reducible rfl)
        try simp only [Act.put, List.setIfInBounds_toArray, List.set_cons_zero, List.set_cons_succ]
        refine' wpAnyH_take (i := 6) (oi := { dst := some 44, op := Op.extract (Operand.tmp 38) 0, type := 30, pos := "law.go:90", after := #[{ on := 5, ground := Ground.data }], guard := none }) (v := _) rfl (by kernel_rfl) (by kernel_rfl) (by kernel_rfl) (fun _ _ _ h => h) (Or.inl ⟨by rfl, ?hy32⟩) (by assumption) ?rest32
        case hy32 => (intro w' ss; (try dsimp only at ss); go_simp; first | done | with_reducible rfl)
        try simp only [Act.put, List.setIfInBounds_toArray, List.set_cons_zero, List.set_cons_succ]
        refine' wpAnyH_take (i := 7) (oi := { dst := some 45, op := Op.extract (Operand.tmp 38) 1, type := 27, pos := "law.go:90", after := #[{ on := 5, ground := Ground.data }, { on := 9, ground := Ground.gcOnly Departure.lateStores }], guard := none }) (v := _) rfl (by kernel_rfl) (by kernel_rfl) (by kernel_rfl) (fun _ _ _ h => h) (Or.inl ⟨by rfl, ?hy33⟩) (by assumption) ?rest33
        case hy33 => (intro w' ss; (try dsimp only at ss); go_simp; first | done | with_reducible rfl)
        try simp only [Act.put, List.setIfInBounds_toArray, List.set_cons_zero, List.set_cons_succ]
        refine wpAnyH_ready (rs := [8]) (by kernel_rfl) (by simp) ?_
        refine AllReadyH.cons (o := { dst := some 11, op := Op.alloc 30, type := 0, pos := "law.go:90", after := #[], guard := none }) rfl (fun K hK => ?_) AllReadyH.nil
        · go_simp
          refine hK.out _ _ ?_ (fun hHeld => ?_)
          · refine hSall.out _ ?_; repeat (first | assumption | exact Since.refl _ | refine Since.alloc ?_ _ | (refine Since.set ?_ ?_ _; rotate_left; first | exact Nat.le_refl _ | assumption | exact hby))
          clear hK K
          try simp only [Act.put, List.setIfInBounds_toArray, List.set_cons_zero, List.set_cons_succ]
          refine wpAnyH_ready (rs := [9]) (by kernel_rfl) (by simp) ?_
          refine AllReadyH.cons (o := { dst := none, op := Op.store 30 (Operand.tmp 11) (Operand.tmp 44), type := 0, pos := "law.go:90", after := #[{ on := 8, ground := Ground.data }, { on := 6, ground := Ground.data }, { on := 4, ground := Ground.chain }, { on := 0, ground := Ground.phase }, { on := 1, ground := Ground.phase }, { on := 2, ground := Ground.phase }, { on := 3, ground := Ground.phase }, { on := 4, ground := Ground.phase }, { on := 5, ground := Ground.phase }, { on := 6, ground := Ground.phase }, { on := 7, ground := Ground.textOnly Departure.lateStores }, { on := 8, ground := Ground.phase }], guard := none }) rfl (fun K hK => ?_) AllReadyH.nil
          · go_simp
            refine hK.out _ _ ?_ (fun hHeld => ?_)
            · refine hSall.out _ ?_; repeat (first | assumption | exact Since.refl _ | refine Since.alloc ?_ _ | (refine Since.set ?_ ?_ _; rotate_left; first | exact Nat.le_refl _ | assumption | exact hby))
            clear hK K
            try simp only [Act.put, List.setIfInBounds_toArray, List.set_cons_zero, List.set_cons_succ]
            refine' wpAnyH_take (i := 10) (oi := { dst := some 12, op := Op.assign (Operand.tmp 45), type := 27, pos := "law.go:90", after := #[{ on := 7, ground := Ground.data }, { on := 9, ground := Ground.chain }, { on := 0, ground := Ground.phase }, { on := 1, ground := Ground.phase }, { on := 2, ground := Ground.phase }, { on := 3, ground := Ground.phase }, { on := 4, ground := Ground.phase }, { on := 5, ground := Ground.phase }, { on := 6, ground := Ground.phase }, { on := 7, ground := Ground.phase }, { on := 8, ground := Ground.phase }, { on := 9, ground := Ground.phase }], guard := none }) (v := _) rfl (by kernel_rfl) (by kernel_rfl) (by kernel_rfl) (fun _ _ _ h => h) (Or.inl ⟨by rfl, ?hy34⟩) (by assumption) ?rest34
            case hy34 => (intro w' ss; (try dsimp only at ss); go_simp; first | done | with_reducible rfl)
            try simp only [Act.put, List.setIfInBounds_toArray, List.set_cons_zero, List.set_cons_succ]
            refine wpAnyH_done (by kernel_rfl) ?_ _
            refine NoPanic.normal ?_
            go_wp2_with fail
            go_meet
            refine ⟨_, A5, q5, rfl, rfl, ?_, ?_, ⟨?_, ?_⟩⟩
            · repeat (first | assumption | exact Since.refl _ | refine Since.alloc ?_ _ | (refine Since.set ?_ ?_ _; rotate_left; first | exact Nat.le_refl _ | assumption | exact hby))
            · repeat (first | exact r5 | refine Row.since ?_ (since_alloc _ _) | (refine Law03.row_put0 ?_ ?_; rotate_left; (focus (go_simp; done))) | (refine Law03.row_put1 ?_ ?_; rotate_left; (focus (go_simp; done))))
            · go_simp
            · go_simp
      · go_simp
        refine hK.out _ _ ?_ (since_alloc _ _) ?_
        · exact hSall.out _ ((hr0.trans (since_alloc _ _)))
        clear hK K
        try simp only [Act.put, List.setIfInBounds_toArray, List.set_cons_zero, List.set_cons_succ]
        have Z8 := Law03.Zero.fresh wq1 30
        have hb8 := hr0.size
        have hr0 := hr0.trans (since_alloc wq1 (.cells #[.bool false, .slice none 0 0] 30))
        refine Reg.wpG_ready (rs := [4]) (by kernel_rfl) (by simp) (fun wq2 k2' sq2 => ?_)
        have hr0 := hr0.trans k2'
        have Z8 := Z8.since k2'
        refine Reg.AllG.last (o := { dst := some 43, op := Op.call { callee := Callee.value (Operand.func 30), args := #[Operand.tmp 40, Operand.tmp 42], argTypes := #[30, 30] }, type := 45, pos := "law.go:90", after := #[{ on := 1, ground := Ground.data }, { on := 3, ground := Ground.data }, { on := 3, ground := Ground.chain }], guard := none }) rfl (by rfl) (fun K hK => ?_) Reg.AllG.nil
        · go_simp
          (with_reducible refine (gcd_at a0 a1 cap0 cap1 b0 b1 d0 d1 wq2 (R0.out.since (hS0.trans (hZ.trans hr0))) (R1.out.since (hS0.trans (hZ.trans hr0))) M0.out M1.out E3.out).mono ?_)
          rintro e y ⟨A5, q5, rfl, r5, hx⟩
          have hr0 := hr0.trans hx
          have hby := hr0.size
          have Z8 := Z8.since hx
          refine hK.out _ _ ?_ (fun hHeld => ?_)
          · exact hSall.out _ (hr0)
          clear hK K
          try simp only [Act.put, List.setIfInBounds_toArray, List.set_cons_zero, List.set_cons_succ]
          have u8 : wq1.heap.size ≠ y.heap.size := Nat.ne_of_lt Z8.lt
          have u8' : y.heap.size ≠ wq1.heap.size := Ne.symm u8
          refine' wpAnyH_take (i := 5) (oi := { dst := some 38, op := Op.move (Operand.tmp 43), type := 45, pos := "law.go:90", after := #[{ on := 4, ground := Ground.data }], guard := none }) (v := _) rfl (by kernel_rfl) (by kernel_rfl) (by kernel_rfl) (fun _ _ _ h => h) (Or.inl ⟨by rfl, ?hy35⟩) (by assumption) ?rest35
          case hy35 => (intro w' ss; (try dsimp only at ss); go_simp; first | done | with_reducible rfl)
          try simp only [Act.put, List.setIfInBounds_toArray, List.set_cons_zero, List.set_cons_succ]
          refine' wpAnyH_take (i := 6) (oi := { dst := some 44, op := Op.extract (Operand.tmp 38) 0, type := 30, pos := "law.go:90", after := #[{ on := 5, ground := Ground.data }], guard := none }) (v := _) rfl (by kernel_rfl) (by kernel_rfl) (by kernel_rfl) (fun _ _ _ h => h) (Or.inl ⟨by rfl, ?hy36⟩) (by assumption) ?rest36
          case hy36 => (intro w' ss; (try dsimp only at ss); go_simp; first | done | with_reducible rfl)
          try simp only [Act.put, List.setIfInBounds_toArray, List.set_cons_zero, List.set_cons_succ]
          refine' wpAnyH_take (i := 7) (oi := { dst := some 45, op := Op.extract (Operand.tmp 38) 1, type := 27, pos := "law.go:90", after := #[{ on := 5, ground := Ground.data }, { on := 9, ground := Ground.gcOnly Departure.lateStores }], guard := none }) (v := _) rfl (by kernel_rfl) (by kernel_rfl) (by kernel_rfl) (fun _ _ _ h => h) (Or.inl ⟨by rfl, ?hy37⟩) (by assumption) ?rest37
          case hy37 => (intro w' ss; (try dsimp only at ss); go_simp; first | done | with_reducible rfl)
          try simp only [Act.put, List.setIfInBounds_toArray, List.set_cons_zero, List.set_cons_succ]
          refine wpAnyH_ready (rs := [9]) (by kernel_rfl) (by simp) ?_
          refine AllReadyH.cons (o := { dst := none, op := Op.store 30 (Operand.tmp 11) (Operand.tmp 44), type := 0, pos := "law.go:90", after := #[{ on := 8, ground := Ground.data }, { on := 6, ground := Ground.data }, { on := 4, ground := Ground.chain }, { on := 0, ground := Ground.phase }, { on := 1, ground := Ground.phase }, { on := 2, ground := Ground.phase }, { on := 3, ground := Ground.phase }, { on := 4, ground := Ground.phase }, { on := 5, ground := Ground.phase }, { on := 6, ground := Ground.phase }, { on := 7, ground := Ground.textOnly Departure.lateStores }, { on := 8, ground := Ground.phase }], guard := none }) rfl (fun K hK => ?_) AllReadyH.nil
          · obtain ⟨z8a, z8b, z8c, z8d⟩ := Z8
            go_simp
            refine hK.out _ _ ?_ (fun hHeld => ?_)
            · refine hSall.out _ ?_; repeat (first | assumption | exact Since.refl _ | refine Since.alloc ?_ _ | (refine Since.set ?_ ?_ _; rotate_left; first | exact Nat.le_refl _ | assumption | exact hb8 | exact hby))
            clear hK K
            try simp only [Act.put, List.setIfInBounds_toArray, List.set_cons_zero, List.set_cons_succ]
            refine' wpAnyH_take (i := 10) (oi := { dst := some 12, op := Op.assign (Operand.tmp 45), type := 27, pos := "law.go:90", after := #[{ on := 7, ground := Ground.data }, { on := 9, ground := Ground.chain }, { on := 0, ground := Ground.phase }, { on := 1, ground := Ground.phase }, { on := 2, ground := Ground.phase }, { on := 3, ground := Ground.phase }, { on := 4, ground := Ground.phase }, { on := 5, ground := Ground.phase }, { on := 6, ground := Ground.phase }, { on := 7, ground := Ground.phase }, { on := 8, ground := Ground.phase }, { on := 9, ground := Ground.phase }], guard := none }) (v := _) rfl (by kernel_rfl) (by kernel_rfl) (by kernel_rfl) (fun _ _ _ h => h) (Or.inl ⟨by rfl, ?hy38⟩) (by assumption) ?rest38
            case hy38 => (intro w' ss; (try dsimp only at ss); go_simp; first | done | with_reducible rfl)
            try simp only [Act.put, List.setIfInBounds_toArray, List.set_cons_zero, List.set_cons_succ]
            refine wpAnyH_done (by kernel_rfl) ?_ _
            refine NoPanic.normal ?_
            go_wp2_with fail
            go_meet
            refine ⟨_, A5, q5, rfl, rfl, ?_, ?_, ⟨?_, ?_⟩⟩
            · repeat (first | assumption | exact Since.refl _ | refine Since.alloc ?_ _ | (refine Since.set ?_ ?_ _; rotate_left; first | exact Nat.le_refl _ | assumption | exact hb8 | exact hby))
            · repeat (first | exact r5 | refine Row.since ?_ (since_alloc _ _) | (refine Law03.row_put0 ?_ ?_; rotate_left; (focus (go_simp; done))) | (refine Law03.row_put1 ?_ ?_; rotate_left; (focus (go_simp; done))))
            · go_simp
            · go_simp
    case rest =>
      obtain ⟨c5, A5, q5, rfl, rfl, hc, r5, g0, g1⟩ := hcut
      have hS := hZ.trans hc
      have r1 := r1.since hc
      have r2 := r2.since hc
      have r3 := r3.since hc
      have r4 := r4.since hc
      have V0 : Hid (∀ W', Since wc W' → _) := fun W' h => V0.out W' (hc.trans h)
      have V1 : Hid (∀ W', Since wc W' → _) := fun W' h => V1.out W' (hc.trans h)
      have V2 : Hid (∀ W', Since wc W' → _) := fun W' h => V2.out W' (hc.trans h)
      have V3 : Hid (∀ W', Since wc W' → _) := fun W' h => V3.out W' (hc.trans h)
      have V4 : Hid (∀ W', Since wc W' → W'.cell? ⟨c5, 0, none⟩ = some (.bool n3) ∧ W'.cell? ⟨c5, 1, none⟩ = some (.slice A5 s3.length q5)) := fun W' h => ⟨Law03.stays g0 h, Law03.stays g1 h⟩
      clear g0 g1 hc hZ hK
      obtain ⟨⟨k0, k1, k2, k3⟩, _⟩ := hold.out _ hS
      have hK := Since.refl wc
      go_upto_region 9 with (first
      | (go_at_call 31; (with_reducible refine (rgcd_at a0 a1 cap0 cap1 b0 b1 d0 d1 _ (R0.out.since (hS0.trans hS)) (R1.out.since (hS0.trans hS)) M0.out M1.out E3.out).mono ?_); rintro e y2 ⟨A6, q6, rfl, r6, h⟩; have hK := hK.trans h))
      obtain ⟨W5, hW5⟩ : ∃ W5, W5 = y2.alloc (.cells #[.bool n3, .slice A6 s3.length q6] 24) := ⟨_, rfl⟩
      rw [← hW5]
      have V5 : Hid (∀ W', Since W5 W' → W'.cell? ⟨y2.heap.size, 0, none⟩ = some (.bool n3) ∧ W'.cell? ⟨y2.heap.size, 1, none⟩ = some (.slice A6 s3.length q6)) := fun W' h => by rw [hW5] at h; exact ⟨(keep2 h).1, (keep2 h).2.1⟩
      have hx : Since y2 W5 := by rw [hW5]; exact since_alloc _ _
      have hg := hK.trans hx
      have r1 := r1.since hg
      have r2 := r2.since hg
      have r3 := r3.since hg
      have r4 := r4.since hg
      have r5 := r5.since hg
      have r6 := r6.since hx
      have V0 : Hid (∀ W', Since W5 W' → _) := fun W' h => V0.out W' (hg.trans h)
      have V1 : Hid (∀ W', Since W5 W' → _) := fun W' h => V1.out W' (hg.trans h)
      have V2 : Hid (∀ W', Since W5 W' → _) := fun W' h => V2.out W' (hg.trans h)
      have V3 : Hid (∀ W', Since W5 W' → _) := fun W' h => V3.out W' (hg.trans h)
      have V4 : Hid (∀ W', Since W5 W' → _) := fun W' h => V4.out W' (hg.trans h)
      have hS := hS.trans hg
      clear hW5 hx hg hK
      generalize y2.heap.size = bk5 at *
      have hK := Since.refl W5
      have hall : Hid (∀ W : World, Since W5 W → (W.cell? ⟨c0, 0, none⟩ = some (.bool n1) ∧ W.cell? ⟨c0, 1, none⟩ = some (.slice A1 s1.length q1)) ∧ (W.cell? ⟨c1, 0, none⟩ = some (.bool n2) ∧ W.cell? ⟨c1, 1, none⟩ = some (.slice A2 s2.length q2)) ∧ (W.cell? ⟨bk2, 0, none⟩ = some (.bool n1) ∧ W.cell? ⟨bk2, 1, none⟩ = some (.slice A3 s1.length q3)) ∧ (W.cell? ⟨bk2 + 1, 0, none⟩ = some (.bool n2) ∧ W.cell? ⟨bk2 + 1, 1, none⟩ = some (.slice A4 s2.length q4)) ∧ (W.cell? ⟨c5, 0, none⟩ = some (.bool n3) ∧ W.cell? ⟨c5, 1, none⟩ = some (.slice A5 s3.length q5)) ∧ (W.cell? ⟨bk5, 0, none⟩ = some (.bool n3) ∧ W.cell? ⟨bk5, 1, none⟩ = some (.slice A6 s3.length q6))) := fun W h => ⟨V0.out _ h, V1.out _ h, V2.out _ h, V3.out _ h, V4.out _ h, V5.out _ h⟩
      refine wp_region_noPanic ?_
      refine Reg.wp_region_G (S := fun W => (W.cell? ⟨c0, 0, none⟩ = some (.bool n1) ∧ W.cell? ⟨c0, 1, none⟩ = some (.slice A1 s1.length q1)) ∧ (W.cell? ⟨c1, 0, none⟩ = some (.bool n2) ∧ W.cell? ⟨c1, 1, none⟩ = some (.slice A2 s2.length q2)) ∧ (W.cell? ⟨bk2, 0, none⟩ = some (.bool n1) ∧ W.cell? ⟨bk2, 1, none⟩ = some (.slice A3 s1.length q3)) ∧ (W.cell? ⟨bk2 + 1, 0, none⟩ = some (.bool n2) ∧ W.cell? ⟨bk2 + 1, 1, none⟩ = some (.slice A4 s2.length q4)) ∧ (W.cell? ⟨c5, 0, none⟩ = some (.bool n3) ∧ W.cell? ⟨c5, 1, none⟩ = some (.slice A5 s3.length q5)) ∧ (W.cell? ⟨bk5, 0, none⟩ = some (.bool n3) ∧ W.cell? ⟨bk5, 1, none⟩ = some (.slice A6 s3.length q6))) (fun j => [].contains j) (by kernel_rfl) ?_ ?_
      · exact hall.out _ (Since.drew (Since.refl W5))
      refine' Reg.wpG_take (i := 0) (oi := { dst := some 52, op := Op.load 30 (Operand.tmp 5), type := 30, pos := "law.go:92", after := #[], guard := none }) (v := _) [1, 3, 4, 5, 6, 7, 8, 9, 10, 11, 12, 13, 14, 15, 16, 17, 18, 19, 20, 21, 22, 23, 24, 25, 26] [] rfl rfl (by kernel_rfl) (by kernel_rfl) (by kernel_rfl) (by kernel_rfl) (by kernel_rfl) (by kernel_rfl) (by kernel_rfl) (fun _ _ _ h => h) (Or.inl ⟨by rfl, Or.inl ?hy39⟩) ?rest39
      case hy39 => (intro w' kk ss; (try dsimp only at ss); go_simp; first | done | with_reducible rfl)
      try simp only [Act.put, List.setIfInBounds_toArray, List.set_cons_zero, List.set_cons_succ]
      refine Reg.wpG_take (i := 1) (oi := { dst := some 53, op := Op.call { callee := Callee.value (Operand.func 19), args := #[Operand.tmp 52], argTypes := #[30] }, type := 24, pos := "law.go:92", after := #[{ on := 0, ground := Ground.data }], guard := none }) (v := sv n1 (.slice A1 s1.length q1)) [3, 4, 5, 6, 7, 8, 9, 10, 11, 12, 13, 14, 15, 16, 17, 18, 19, 20, 21, 22, 23, 24, 25, 26] [] rfl rfl (by kernel_rfl) (by kernel_rfl) (by kernel_rfl) (by kernel_rfl) (by kernel_rfl) (by kernel_rfl) (by kernel_rfl) (fun _ _ _ h => h) (Or.inl ⟨by rfl, Or.inr ⟨19, #[sv n1 (.slice A1 s1.length q1)], fun w' kk ss => ⟨?_, ?_⟩⟩⟩) ?_
      · (try dsimp only at ss); go_simp
      · exact (Law03.ours_any A1 s1.length q1 n1 w').mono fun e w'' h => ⟨h.1, h.2, hall.out _ ((Since.drew (Since.refl W5)).trans (kk.trans h.2))⟩
      try simp only [Act.put, List.setIfInBounds_toArray, List.set_cons_zero, List.set_cons_succ]
      refine' Reg.wpG_take (i := 2) (oi := { dst := some 54, op := Op.load 24 (Operand.tmp 8), type := 24, pos := "law.go:92", after := #[], guard := none }) (v := _) [3, 4, 5, 6, 7, 8, 9, 10, 11, 12, 13, 14, 15, 16, 17, 18, 19, 20, 21, 22, 23, 24, 25, 26] [] rfl rfl (by kernel_rfl) (by kernel_rfl) (by kernel_rfl) (by kernel_rfl) (by kernel_rfl) (by kernel_rfl) (by kernel_rfl) (fun _ _ _ h => h) (Or.inl ⟨by rfl, Or.inl ?hy40⟩) ?rest40
      case hy40 => (intro w' kk ss; (try dsimp only at ss); go_simp; first | done | with_reducible rfl)
      try simp only [Act.put, List.setIfInBounds_toArray, List.set_cons_zero, List.set_cons_succ]
      refine Reg.wpG_take (i := 3) (oi := { dst := some 55, op := Op.call { callee := Callee.value (Operand.func 18), args := #[Operand.tmp 53, Operand.tmp 54], argTypes := #[24, 24] }, type := 4, pos := "law.go:92", after := #[{ on := 1, ground := Ground.data }, { on := 2, ground := Ground.data }, { on := 1, ground := Ground.chain }], guard := none }) (v := .bool true) [4, 5, 6, 7, 8, 9, 10, 11, 12, 13, 14, 15, 16, 17, 18, 19, 20, 21, 22, 23, 24, 25, 26] [] rfl rfl (by kernel_rfl) (by kernel_rfl) (by kernel_rfl) (by kernel_rfl) (by kernel_rfl) (by kernel_rfl) (by kernel_rfl) (fun _ _ _ h => h) (Or.inl ⟨by rfl, Or.inr ⟨18, #[sv n1 (.slice A1 s1.length q1), sv n1 (.slice A3 s1.length q3)], fun w' kk ss => ⟨?_, ?_⟩⟩⟩) ?_
      · (try dsimp only at ss); go_simp
      · exact (Law03.same_self A1 A3 q1 q3 n1 s1 w' (r1.since ((Since.drew (Since.refl W5)).trans kk)) (r3.since ((Since.drew (Since.refl W5)).trans kk)) LS.out.1.1).mono fun e w'' h => ⟨h.1, h.2, hall.out _ ((Since.drew (Since.refl W5)).trans (kk.trans h.2))⟩
      try simp only [Act.put, List.setIfInBounds_toArray, List.set_cons_zero, List.set_cons_succ]
      refine' Reg.wpG_take (i := 4) (oi := { dst := some 56, op := Op.move (Operand.tmp 55), type := 4, pos := "law.go:92", after := #[{ on := 3, ground := Ground.data }, { on := 3, ground := Ground.chain }], guard := none }) (v := _) [5, 6, 7, 8, 9, 10, 11, 12, 13, 14, 15, 16, 17, 18, 19, 20, 21, 22, 23, 24, 25, 26] [] rfl rfl (by kernel_rfl) (by kernel_rfl) (by kernel_rfl) (by kernel_rfl) (by kernel_rfl) (by kernel_rfl) (by kernel_rfl) (fun _ _ _ h => h) (Or.inl ⟨by rfl, Or.inl ?hy41⟩) ?rest41
      case hy41 => (intro w' kk ss; (try dsimp only at ss); go_simp; first | done | with_reducible rfl)
      try simp only [Act.put, List.setIfInBounds_toArray, List.set_cons_zero, List.set_cons_succ]
      refine' Reg.wpG_take (i := 5) (oi := { dst := some 57, op := Op.load 30 (Operand.tmp 6), type := 30, pos := "law.go:92", after := #[{ on := 4, ground := Ground.guard }], guard := some (4, true) }) (v := _) [6, 8, 9, 10, 11, 12, 13, 14, 15, 16, 17, 18, 19, 20, 21, 22, 23, 24, 25, 26] [] rfl rfl (by kernel_rfl) (by kernel_rfl) (by kernel_rfl) (by kernel_rfl) (by kernel_rfl) (by kernel_rfl) (by kernel_rfl) (fun _ _ _ h => h) (Or.inl ⟨by rfl, Or.inl ?hy42⟩) ?rest42
      case hy42 => (intro w' kk ss; (try dsimp only at ss); go_simp; first | done | with_reducible rfl)
      try simp only [Act.put, List.setIfInBounds_toArray, List.set_cons_zero, List.set_cons_succ]
      refine Reg.wpG_take (i := 6) (oi := { dst := some 58, op := Op.call { callee := Callee.value (Operand.func 19), args := #[Operand.tmp 57], argTypes := #[30] }, type := 24, pos := "law.go:92", after := #[{ on := 5, ground := Ground.data }, { on := 4, ground := Ground.chain }, { on := 4, ground := Ground.guard }], guard := some (4, true) }) (v := sv n2 (.slice A2 s2.length q2)) [8, 9, 10, 11, 12, 13, 14, 15, 16, 17, 18, 19, 20, 21, 22, 23, 24, 25, 26] [] rfl rfl (by kernel_rfl) (by kernel_rfl) (by kernel_rfl) (by kernel_rfl) (by kernel_rfl) (by kernel_rfl) (by kernel_rfl) (fun _ _ _ h => h) (Or.inl ⟨by rfl, Or.inr ⟨19, #[sv n2 (.slice A2 s2.length q2)], fun w' kk ss => ⟨?_, ?_⟩⟩⟩) ?_
      · (try dsimp only at ss); go_simp
      · exact (Law03.ours_any A2 s2.length q2 n2 w').mono fun e w'' h => ⟨h.1, h.2, hall.out _ ((Since.drew (Since.refl W5)).trans (kk.trans h.2))⟩
      try simp only [Act.put, List.setIfInBounds_toArray, List.set_cons_zero, List.set_cons_succ]
      refine' Reg.wpG_take (i := 7) (oi := { dst := some 59, op := Op.load 24 (Operand.tmp 9), type := 24, pos := "law.go:92", after := #[{ on := 4, ground := Ground.guard }], guard := some (4, true) }) (v := _) [8, 9, 10, 11, 12, 13, 14, 15, 16, 17, 18, 19, 20, 21, 22, 23, 24, 25, 26] [] rfl rfl (by kernel_rfl) (by kernel_rfl) (by kernel_rfl) (by kernel_rfl) (by kernel_rfl) (by kernel_rfl) (by kernel_rfl) (fun _ _ _ h => h) (Or.inl ⟨by rfl, Or.inl ?hy43⟩) ?rest43
      case hy43 => (intro w' kk ss; (try dsimp only at ss); go_simp; first | done | with_reducible rfl)
      try simp only [Act.put, List.setIfInBounds_toArray, List.set_cons_zero, List.set_cons_succ]
      refine Reg.wpG_take (i := 8) (oi := { dst := some 60, op := Op.call { callee := Callee.value (Operand.func 18), args := #[Operand.tmp 58, Operand.tmp 59], argTypes := #[24, 24] }, type := 4, pos := "law.go:92", after := #[{ on := 6, ground := Ground.data }, { on := 7, ground := Ground.data }, { on := 6, ground := Ground.chain }, { on := 4, ground := Ground.guard }], guard := some (4, true) }) (v := .bool true) [9, 10, 11, 12, 13, 14, 15, 16, 17, 18, 19, 20, 21, 22, 23, 24, 25, 26] [] rfl rfl (by kernel_rfl) (by kernel_rfl) (by kernel_rfl) (by kernel_rfl) (by kernel_rfl) (by kernel_rfl) (by kernel_rfl) (fun _ _ _ h => h) (Or.inl ⟨by rfl, Or.inr ⟨18, #[sv n2 (.slice A2 s2.length q2), sv n2 (.slice A4 s2.length q4)], fun w' kk ss => ⟨?_, ?_⟩⟩⟩) ?_
      · (try dsimp only at ss); go_simp
      · exact (Law03.same_self A2 A4 q2 q4 n2 s2 w' (r2.since ((Since.drew (Since.refl W5)).trans kk)) (r4.since ((Since.drew (Since.refl W5)).trans kk)) LS.out.1.2).mono fun e w'' h => ⟨h.1, h.2, hall.out _ ((Since.drew (Since.refl W5)).trans (kk.trans h.2))⟩
      try simp only [Act.put, List.setIfInBounds_toArray, List.set_cons_zero, List.set_cons_succ]
      refine' Reg.wpG_take (i := 9) (oi := { dst := some 61, op := Op.pick (Operand.tmp 56) (Operand.tmp 60) (Operand.const (Value.bool false)), type := 4, pos := "law.go:92", after := #[{ on := 4, ground := Ground.data }, { on := 8, ground := Ground.data }], guard := none }) (v := _) [10, 11, 12, 13, 14, 15, 16, 17, 18, 19, 20, 21, 22, 23, 24, 25, 26] [] rfl rfl (by kernel_rfl) (by kernel_rfl) (by kernel_rfl) (by kernel_rfl) (by kernel_rfl) (by kernel_rfl) (by kernel_rfl) (fun _ _ _ h => h) (Or.inl ⟨by rfl, Or.inl ?hy44⟩) ?rest44
      case hy44 => (intro w' kk ss; (try dsimp only at ss); go_simp; first | done | with_reducible rfl)
      try simp only [Act.put, List.setIfInBounds_toArray, List.set_cons_zero, List.set_cons_succ]
      refine' Reg.wpG_take (i := 10) (oi := { dst := some 62, op := Op.move (Operand.tmp 61), type := 4, pos := "law.go:92", after := #[{ on := 9, ground := Ground.data }, { on := 8, ground := Ground.chain }], guard := none }) (v := _) [11, 12, 13, 14, 15, 16, 17, 18, 19, 20, 21, 22, 23, 24, 25, 26] [] rfl rfl (by kernel_rfl) (by kernel_rfl) (by kernel_rfl) (by kernel_rfl) (by kernel_rfl) (by kernel_rfl) (by kernel_rfl) (fun _ _ _ h => h) (Or.inl ⟨by rfl, Or.inl ?hy45⟩) ?rest45
      case hy45 => (intro w' kk ss; (try dsimp only at ss); go_simp; first | done | with_reducible rfl)
      try simp only [Act.put, List.setIfInBounds_toArray, List.set_cons_zero, List.set_cons_succ]
      refine' Reg.wpG_take (i := 11) (oi := { dst := some 63, op := Op.move (Operand.tmp 7), type := 27, pos := "law.go:92", after := #[{ on := 10, ground := Ground.guard }], guard := some (10, true) }) (v := _) [13, 14, 15, 16, 17, 18, 19, 20, 21, 22, 23, 24, 25, 26] [] rfl rfl (by kernel_rfl) (by kernel_rfl) (by kernel_rfl) (by kernel_rfl) (by kernel_rfl) (by kernel_rfl) (by kernel_rfl) (fun _ _ _ h => h) (Or.inl ⟨by rfl, Or.inl ?hy46⟩) ?rest46
      case hy46 => (intro w' kk ss; (try dsimp only at ss); go_simp; first | done | with_reducible rfl)
      try simp only [Act.put, List.setIfInBounds_toArray, List.set_cons_zero, List.set_cons_succ]
      refine' Reg.wpG_take (i := 12) (oi := { dst := some 64, op := Op.move (Operand.tmp 10), type := 3, pos := "law.go:92", after := #[{ on := 10, ground := Ground.guard }], guard := some (10, true) }) (v := _) [13, 14, 15, 16, 17, 18, 19, 20, 21, 22, 23, 24, 25, 26] [] rfl rfl (by kernel_rfl) (by kernel_rfl) (by kernel_rfl) (by kernel_rfl) (by kernel_rfl) (by kernel_rfl) (by kernel_rfl) (fun _ _ _ h => h) (Or.inl ⟨by rfl, Or.inl ?hy47⟩) ?rest47
      case hy47 => (intro w' kk ss; (try dsimp only at ss); go_simp; first | done | with_reducible rfl)
      try simp only [Act.put, List.setIfInBounds_toArray, List.set_cons_zero, List.set_cons_succ]
      refine' Reg.wpG_take (i := 13) (oi := { dst := some 65, op := Op.binOp BinOp.eql 3 (Operand.tmp 63) (Operand.tmp 64) 3, type := 4, pos := "law.go:92", after := #[{ on := 11, ground := Ground.data }, { on := 12, ground := Ground.data }, { on := 10, ground := Ground.guard }], guard := some (10, true) }) (v := _) [14, 15, 16, 17, 18, 19, 20, 21, 22, 23, 24, 25, 26] [] rfl rfl (by kernel_rfl) (by kernel_rfl) (by kernel_rfl) (by kernel_rfl) (by kernel_rfl) (by kernel_rfl) (by kernel_rfl) (fun _ _ _ h => h) (Or.inl ⟨by rfl, Or.inl ?hy48⟩) ?rest48
      case hy48 => (intro w' kk ss; (try dsimp only at ss); go_simp; first | done | with_reducible rfl)
      try simp only [Act.put, List.setIfInBounds_toArray, List.set_cons_zero, List.set_cons_succ]
      refine' Reg.wpG_take (i := 14) (oi := { dst := some 66, op := Op.pick (Operand.tmp 62) (Operand.tmp 65) (Operand.const (Value.bool false)), type := 4, pos := "law.go:92", after := #[{ on := 10, ground := Ground.data }, { on := 13, ground := Ground.data }], guard := none }) (v := _) [15, 16, 17, 18, 19, 20, 21, 22, 23, 24, 25, 26] [] rfl rfl (by kernel_rfl) (by kernel_rfl) (by kernel_rfl) (by kernel_rfl) (by kernel_rfl) (by kernel_rfl) (by kernel_rfl) (fun _ _ _ h => h) (Or.inl ⟨by rfl, Or.inl ?hy49⟩) ?rest49
      case hy49 => (intro w' kk ss; (try dsimp only at ss); go_simp; first | done | with_reducible rfl)
      try simp only [Act.put, List.setIfInBounds_toArray, List.set_cons_zero, List.set_cons_succ]
      refine' Reg.wpG_take (i := 15) (oi := { dst := some 67, op := Op.move (Operand.tmp 66), type := 4, pos := "law.go:92", after := #[{ on := 14, ground := Ground.data }, { on := 10, ground := Ground.chain }], guard := none }) (v := _) [16, 17, 18, 19, 20, 21, 22, 23, 24, 25, 26] [] rfl rfl (by kernel_rfl) (by kernel_rfl) (by kernel_rfl) (by kernel_rfl) (by kernel_rfl) (by kernel_rfl) (by kernel_rfl) (fun _ _ _ h => h) (Or.inl ⟨by rfl, Or.inl ?hy50⟩) ?rest50
      case hy50 => (intro w' kk ss; (try dsimp only at ss); go_simp; first | done | with_reducible rfl)
      try simp only [Act.put, List.setIfInBounds_toArray, List.set_cons_zero, List.set_cons_succ]
      refine' Reg.wpG_take (i := 16) (oi := { dst := some 68, op := Op.load 30 (Operand.tmp 11), type := 30, pos := "law.go:92", after := #[{ on := 15, ground := Ground.guard }], guard := some (15, true) }) (v := _) [17, 19, 20, 21, 22, 23, 24, 25, 26] [] rfl rfl (by kernel_rfl) (by kernel_rfl) (by kernel_rfl) (by kernel_rfl) (by kernel_rfl) (by kernel_rfl) (by kernel_rfl) (fun _ _ _ h => h) (Or.inl ⟨by rfl, Or.inl ?hy51⟩) ?rest51
      case hy51 => (intro w' kk ss; (try dsimp only at ss); go_simp; first | done | with_reducible rfl)
      try simp only [Act.put, List.setIfInBounds_toArray, List.set_cons_zero, List.set_cons_succ]
      refine Reg.wpG_take (i := 17) (oi := { dst := some 69, op := Op.call { callee := Callee.value (Operand.func 19), args := #[Operand.tmp 68], argTypes := #[30] }, type := 24, pos := "law.go:92", after := #[{ on := 16, ground := Ground.data }, { on := 15, ground := Ground.chain }, { on := 15, ground := Ground.guard }], guard := some (15, true) }) (v := sv n3 (.slice A5 s3.length q5)) [19, 20, 21, 22, 23, 24, 25, 26] [] rfl rfl (by kernel_rfl) (by kernel_rfl) (by kernel_rfl) (by kernel_rfl) (by kernel_rfl) (by kernel_rfl) (by kernel_rfl) (fun _ _ _ h => h) (Or.inl ⟨by rfl, Or.inr ⟨19, #[sv n3 (.slice A5 s3.length q5)], fun w' kk ss => ⟨?_, ?_⟩⟩⟩) ?_
      · (try dsimp only at ss); go_simp
      · exact (Law03.ours_any A5 s3.length q5 n3 w').mono fun e w'' h => ⟨h.1, h.2, hall.out _ ((Since.drew (Since.refl W5)).trans (kk.trans h.2))⟩
      try simp only [Act.put, List.setIfInBounds_toArray, List.set_cons_zero, List.set_cons_succ]
      refine' Reg.wpG_take (i := 18) (oi := { dst := some 70, op := Op.load 24 (Operand.tmp 13), type := 24, pos := "law.go:92", after := #[{ on := 15, ground := Ground.guard }], guard := some (15, true) }) (v := _) [19, 20, 21, 22, 23, 24, 25, 26] [] rfl rfl (by kernel_rfl) (by kernel_rfl) (by kernel_rfl) (by kernel_rfl) (by kernel_rfl) (by kernel_rfl) (by kernel_rfl) (fun _ _ _ h => h) (Or.inl ⟨by rfl, Or.inl ?hy52⟩) ?rest52
      case hy52 => (intro w' kk ss; (try dsimp only at ss); go_simp; first | done | with_reducible rfl)
      try simp only [Act.put, List.setIfInBounds_toArray, List.set_cons_zero, List.set_cons_succ]
      refine Reg.wpG_take (i := 19) (oi := { dst := some 71, op := Op.call { callee := Callee.value (Operand.func 18), args := #[Operand.tmp 69, Operand.tmp 70], argTypes := #[24, 24] }, type := 4, pos := "law.go:92", after := #[{ on := 17, ground := Ground.data }, { on := 18, ground := Ground.data }, { on := 17, ground := Ground.chain }, { on := 15, ground := Ground.guard }], guard := some (15, true) }) (v := .bool true) [20, 21, 22, 23, 24, 25, 26] [] rfl rfl (by kernel_rfl) (by kernel_rfl) (by kernel_rfl) (by kernel_rfl) (by kernel_rfl) (by kernel_rfl) (by kernel_rfl) (fun _ _ _ h => h) (Or.inl ⟨by rfl, Or.inr ⟨18, #[sv n3 (.slice A5 s3.length q5), sv n3 (.slice A6 s3.length q6)], fun w' kk ss => ⟨?_, ?_⟩⟩⟩) ?_
      · (try dsimp only at ss); go_simp
      · exact (Law03.same_self A5 A6 q5 q6 n3 s3 w' (r5.since ((Since.drew (Since.refl W5)).trans kk)) (r6.since ((Since.drew (Since.refl W5)).trans kk)) LS.out.2).mono fun e w'' h => ⟨h.1, h.2, hall.out _ ((Since.drew (Since.refl W5)).trans (kk.trans h.2))⟩
      try simp only [Act.put, List.setIfInBounds_toArray, List.set_cons_zero, List.set_cons_succ]
      refine' Reg.wpG_take (i := 20) (oi := { dst := some 72, op := Op.pick (Operand.tmp 67) (Operand.tmp 71) (Operand.const (Value.bool false)), type := 4, pos := "law.go:92", after := #[{ on := 15, ground := Ground.data }, { on := 19, ground := Ground.data }], guard := none }) (v := _) [21, 22, 23, 24, 25, 26] [] rfl rfl (by kernel_rfl) (by kernel_rfl) (by kernel_rfl) (by kernel_rfl) (by kernel_rfl) (by kernel_rfl) (by kernel_rfl) (fun _ _ _ h => h) (Or.inl ⟨by rfl, Or.inl ?hy53⟩) ?rest53
      case hy53 => (intro w' kk ss; (try dsimp only at ss); go_simp; first | done | with_reducible rfl)
      try simp only [Act.put, List.setIfInBounds_toArray, List.set_cons_zero, List.set_cons_succ]
      refine' Reg.wpG_take (i := 21) (oi := { dst := some 73, op := Op.move (Operand.tmp 72), type := 4, pos := "law.go:92", after := #[{ on := 20, ground := Ground.data }, { on := 19, ground := Ground.chain }], guard := none }) (v := _) [22, 23, 24, 25, 26] [] rfl rfl (by kernel_rfl) (by kernel_rfl) (by kernel_rfl) (by kernel_rfl) (by kernel_rfl) (by kernel_rfl) (by kernel_rfl) (fun _ _ _ h => h) (Or.inl ⟨by rfl, Or.inl ?hy54⟩) ?rest54
      case hy54 => (intro w' kk ss; (try dsimp only at ss); go_simp; first | done | with_reducible rfl)
      try simp only [Act.put, List.setIfInBounds_toArray, List.set_cons_zero, List.set_cons_succ]
      refine' Reg.wpG_take (i := 22) (oi := { dst := some 74, op := Op.move (Operand.tmp 12), type := 27, pos := "law.go:92", after := #[{ on := 21, ground := Ground.guard }], guard := some (21, true) }) (v := _) [24, 25, 26] [] rfl rfl (by kernel_rfl) (by kernel_rfl) (by kernel_rfl) (by kernel_rfl) (by kernel_rfl) (by kernel_rfl) (by kernel_rfl) (fun _ _ _ h => h) (Or.inl ⟨by rfl, Or.inl ?hy55⟩) ?rest55
      case hy55 => (intro w' kk ss; (try dsimp only at ss); go_simp; first | done | with_reducible rfl)
      try simp only [Act.put, List.setIfInBounds_toArray, List.set_cons_zero, List.set_cons_succ]
      refine' Reg.wpG_take (i := 23) (oi := { dst := some 75, op := Op.move (Operand.tmp 14), type := 3, pos := "law.go:92", after := #[{ on := 21, ground := Ground.guard }], guard := some (21, true) }) (v := _) [24, 25, 26] [] rfl rfl (by kernel_rfl) (by kernel_rfl) (by kernel_rfl) (by kernel_rfl) (by kernel_rfl) (by kernel_rfl) (by kernel_rfl) (fun _ _ _ h => h) (Or.inl ⟨by rfl, Or.inl ?hy56⟩) ?rest56
      case hy56 => (intro w' kk ss; (try dsimp only at ss); go_simp; first | done | with_reducible rfl)
      try simp only [Act.put, List.setIfInBounds_toArray, List.set_cons_zero, List.set_cons_succ]
      refine' Reg.wpG_take (i := 24) (oi := { dst := some 76, op := Op.binOp BinOp.eql 3 (Operand.tmp 74) (Operand.tmp 75) 3, type := 4, pos := "law.go:92", after := #[{ on := 22, ground := Ground.data }, { on := 23, ground := Ground.data }, { on := 21, ground := Ground.guard }], guard := some (21, true) }) (v := _) [25, 26] [] rfl rfl (by kernel_rfl) (by kernel_rfl) (by kernel_rfl) (by kernel_rfl) (by kernel_rfl) (by kernel_rfl) (by kernel_rfl) (fun _ _ _ h => h) (Or.inl ⟨by rfl, Or.inl ?hy57⟩) ?rest57
      case hy57 => (intro w' kk ss; (try dsimp only at ss); go_simp; first | done | with_reducible rfl)
      try simp only [Act.put, List.setIfInBounds_toArray, List.set_cons_zero, List.set_cons_succ]
      refine' Reg.wpG_take (i := 25) (oi := { dst := some 77, op := Op.pick (Operand.tmp 73) (Operand.tmp 76) (Operand.const (Value.bool false)), type := 4, pos := "law.go:92", after := #[{ on := 21, ground := Ground.data }, { on := 24, ground := Ground.data }], guard := none }) (v := _) [26] [] rfl rfl (by kernel_rfl) (by kernel_rfl) (by kernel_rfl) (by kernel_rfl) (by kernel_rfl) (by kernel_rfl) (by kernel_rfl) (fun _ _ _ h => h) (Or.inl ⟨by rfl, Or.inl ?hy58⟩) ?rest58
      case hy58 => (intro w' kk ss; (try dsimp only at ss); go_simp; first | done | with_reducible rfl)
      try simp only [Act.put, List.setIfInBounds_toArray, List.set_cons_zero, List.set_cons_succ]
      refine' Reg.wpG_take (i := 26) (oi := { dst := some 4, op := Op.assign (Operand.tmp 77), type := 4, pos := "law.go:92", after := #[{ on := 25, ground := Ground.data }, { on := 21, ground := Ground.chain }, { on := 0, ground := Ground.phase }, { on := 1, ground := Ground.phase }, { on := 2, ground := Ground.phase }, { on := 3, ground := Ground.phase }, { on := 4, ground := Ground.phase }, { on := 5, ground := Ground.phase }, { on := 6, ground := Ground.phase }, { on := 7, ground := Ground.phase }, { on := 8, ground := Ground.phase }, { on := 9, ground := Ground.phase }, { on := 10, ground := Ground.phase }, { on := 11, ground := Ground.phase }, { on := 12, ground := Ground.phase }, { on := 13, ground := Ground.phase }, { on := 14, ground := Ground.phase }, { on := 15, ground := Ground.phase }, { on := 16, ground := Ground.phase }, { on := 17, ground := Ground.phase }, { on := 18, ground := Ground.phase }, { on := 19, ground := Ground.phase }, { on := 20, ground := Ground.phase }, { on := 21, ground := Ground.phase }, { on := 22, ground := Ground.phase }, { on := 23, ground := Ground.phase }, { on := 24, ground := Ground.phase }, { on := 25, ground := Ground.phase }], guard := none }) (v := _) [] [] rfl rfl (by kernel_rfl) (by kernel_rfl) (by kernel_rfl) (by kernel_rfl) (by kernel_rfl) (by kernel_rfl) (by kernel_rfl) (fun _ _ _ h => h) (Or.inl ⟨by rfl, Or.inl ?hy59⟩) ?rest59
      case hy59 => (intro w' kk ss; (try dsimp only at ss); go_simp; first | done | with_reducible rfl)
      try simp only [Act.put, List.setIfInBounds_toArray, List.set_cons_zero, List.set_cons_succ]
      refine Reg.wpG_done (by kernel_rfl) (fun we ke se => ?_) _
      refine NoPanic.normal ?_
      go_wp2_with fail
      go_ret
      exact ⟨rfl, hS0.trans (hS.trans ((Since.drew (Since.refl W5)).trans ke))⟩

set_option maxRecDepth 100000 in
theorem lifted (os : Os) (started : os.Started) (H : Type) (enc : TypeId × Value → H) :
    ReturnsInHanded {} Try.checked os 5 .any (Rows.signedDivsSpec.pre6 enc Try.prog Try.f5 Rows.signedDivsRow.domain false) (Rows.signedDivsSpec.post enc Try.prog Try.f5 false true false false) := by
  refine returnsInHanded_of_change (C := Try.checked) own started (by kernel_rfl) Try.func5
    (ChangeSpec.witness6 (enc := enc) (C := Try.checked) false ⟨#[], #[.agg #[.bool false, .slice none 0 0], .agg #[.bool false, .slice none 0 0]], []⟩ 8 (by kernel_rfl) (by kernel_rfl) (by kernel_rfl) (by kernel_rfl)) ?_
  intro W base args ds gs before hval0 hW hcnd _
  have hval : ∀ (j : Nat) t v, Try.f5.params[j]? = some t → args[j]? = some v → Value.okWide Try.prog W .any base t v := hval0
  have hW' := hW
  obtain ⟨p, q, hA0, hV, rfl, hfz, hnd⟩ := hW
  have hA : DataW.TrodAll enc Try.prog W 0 (fun _ => true) true Try.f5.params.toList args.toList ds p := hA0
  rw [Try.params5] at hA hval
  obtain ⟨v0, vs0, d0, ds0, p0, q0, hargs, rfl, rfl, h0, r0⟩ := trodAll_cons hA
  obtain ⟨v1, vs1, d1, ds1, p1, q1, rfl, rfl, rfl, h1, r1⟩ := trodAll_cons r0
  obtain ⟨rfl, rfl, rfl⟩ := trodAll_nil r1
  obtain rfl : args = #[v0, v1] := by cases args; simp_all
  obtain ⟨rfl, rfl⟩ := trodVars_none hV
  have k0 := h0
  have lt0 : ∀ x ∈ p0, x.block < W.heap.size := by obtain ⟨m, hm⟩ := k0; exact DataW.trod_lt m _ _ _ hm
  obtain ⟨cb0, cm0, yb0, ym0, mm0, rfl, rfl, rfl, hb0, hm0⟩ := open_agg2 Try.underlying24 (by kernel_rfl) cells24 (hval 0 24 v0 rfl rfl) h0
  obtain ⟨b0, eb0, xb0⟩ := DataW.trod_bool Try.underlying4 hb0
  simp at eb0
  subst eb0
  obtain ⟨a0, len0, cap0, em0⟩ := slice_form Try.underlying22 hm0
  simp at em0
  subst em0
  obtain ⟨z0, w0⟩ : ∃ zs, IsRow .u32 W a0 len0 cap0 zs := by
    have hf := hm0
    rcases open_ints Try.underlying22 Try.underlying59 (by kernel_rfl) hf with ⟨hcs, _⟩ | ⟨x, l, c, zs, hcs, _, hl, hm, hz, _, hcell, hwz⟩
    · simp [Value.cells] at hcs
      obtain ⟨rfl, rfl, rfl⟩ := hcs
      exact ⟨[], .inl ⟨rfl, rfl, rfl, rfl⟩⟩
    · simp [Value.cells] at hcs
      obtain ⟨rfl, rfl, rfl⟩ := hcs
      exact ⟨zs, .inr ⟨_, rfl, hl, hm, by simpa using hz, hcell, hwz⟩⟩
  have k1 := h1
  have lt1 : ∀ x ∈ p1, x.block < W.heap.size := by obtain ⟨m, hm⟩ := k1; exact DataW.trod_lt m _ _ _ hm
  obtain ⟨cb1, cm1, yb1, ym1, mm1, rfl, rfl, rfl, hb1, hm1⟩ := open_agg2 Try.underlying24 (by kernel_rfl) cells24 (hval 1 24 v1 rfl rfl) h1
  obtain ⟨b1, eb1, xb1⟩ := DataW.trod_bool Try.underlying4 hb1
  simp at eb1
  subst eb1
  obtain ⟨a1, len1, cap1, em1⟩ := slice_form Try.underlying22 hm1
  simp at em1
  subst em1
  obtain ⟨z1, w1⟩ : ∃ zs, IsRow .u32 W a1 len1 cap1 zs := by
    have hf := hm1
    rcases open_ints Try.underlying22 Try.underlying59 (by kernel_rfl) hf with ⟨hcs, _⟩ | ⟨x, l, c, zs, hcs, _, hl, hm, hz, _, hcell, hwz⟩
    · simp [Value.cells] at hcs
      obtain ⟨rfl, rfl, rfl⟩ := hcs
      exact ⟨[], .inl ⟨rfl, rfl, rfl, rfl⟩⟩
    · simp [Value.cells] at hcs
      obtain ⟨rfl, rfl, rfl⟩ := hcs
      exact ⟨zs, .inr ⟨_, rfl, hl, hm, by simpa using hz, hcell, hwz⟩⟩
  clear hA0 hval0
  refine (walk b0 a0 len0 cap0 z0 b1 a1 len1 cap1 z1 W w0 w1).mono fun e W' ⟨he, bel⟩ => ?_
  subst he
  exact ⟨_, rfl, _, _, _, [], _, [], hW', trodAll_mk1 (shut_bool Try.underlying4 _), (trodAll_cons_mk (Below.trod laidOut (by kernel_rfl) (of_decide_eq_true (by kernel_rfl)) k0 bel lt0) (trodAll_cons_mk (Below.trod laidOut (by kernel_rfl) (of_decide_eq_true (by kernel_rfl)) k1 bel lt1) trodAll_mk0)), rfl, bel.frame _, fun h => by cases h⟩

theorem over : Rows.signedDivsRow.holds Try.pinned (OpenSpec.ofChange Rows.signedDivsSpec) :=
  OpenClaim.holds_of_wide 5 Try.f5 rfl rfl rfl rfl rfl rfl rfl ⟨rfl, rfl, rfl, rfl, rfl⟩ rfl rfl rfl rfl rfl (by kernel_rfl) Try.func5 (by kernel_rfl)
    (of_decide_eq_true (by kernel_rfl)) (by unfold Func.isWrapper; first | (rw [if_pos (by decide +kernel)]; kernel_rfl) | (rw [if_neg (by decide +kernel)]; exact ⟨rfl, rfl⟩))
    (fun os started H enc _ => lifted os started H enc)

/-- THE STATEMENT -/
theorem proved : Rows.SignedDivsSaid := over
#print axioms proved
end Go.Proofs.Ytmnankcllblgjaa.signedDivs
