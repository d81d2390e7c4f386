/-
  For all numbers a and b of layer 3 and every text s: the law SignedBack returns true (for at most 30 digits and 300 bytes: a number that is read of s is told as s again; a number comes back from its text; a quotient times the divisor, and what is left, is the number, and what is left lies between nought and the divisor) and leaves both as they were. No condition.
-/
import Derived.Test.YtmnankcllblgjaaDoorRows
import Derived.Test.YtmnankcllblgjaaDoorCards
import Derived.Test.YtmnankcllblgjaaDoorTie
import Derived.LaidMore
import Derived.Lay
import Derived.SevenTiedAt
import Derived.WalkKit
import Derived.ProofKit
import Derived.OpenShut
import Derived.ShutString
import Derived.ChangeOld
import Derived.Below
import Derived.Lib.SmallJoins
import Derived.Test.YtmnankcllblgjaaDoorLw
import Derived.Test.YtmnankcllblgjaaDoorWd
import Derived.Test.YtmnankcllblgjaaDoorSt
import Derived.Test.YtmnankcllblgjaaDoorSc
import Derived.Test.YtmnankcllblgjaaDoorSb
import Derived.Test.YtmnankcllblgjaaDoorLx
import Derived.Test.YtmnankcllblgjaaDoorRg
import Derived.Test.YtmnankcllblgjaaDoorLy
import Derived.Test.YtmnankcllblgjaaDoorLb
import Derived.Deep.RegionHeld3
import Derived.Deep.DeepCutAuto
namespace Go.Proofs.YtmnankcllblgjaaDoor.signedBack
open Go.Joins
open Go.ChangeShapes Go.WideShapes Go.ChangeAt Go.RowKit
open Go.ChangeMaps (open_string shut_string)
open Go.Proofs.YtmnankcllblgjaaDoor.Dig
open Go.Proofs.YtmnankcllblgjaaDoor.Ref03 (sv RetZ textZ parseZ divZ mulZ addZ cmpZ srightB)
set_option linter.unusedVariables false
set_option linter.unusedSimpArgs false

theorem cells24 : Tryd.prog.cellsOf 24 = 2 := by kernel_rfl
theorem own : ownKnob Tryd.prog.godebug = none := by kernel_rfl
theorem laidOut : laidOutB Tryd.prog = true := by kernel_rfl

/-- WHAT THE WALK IS TOLD OF A SLICE OF INTEGERS THAT CAME IN: it is nil; or it leads to a row of 'cap' cells, the numbers 'zs' (the first 'len' are its elements, the rest its spare room), each fitting its kind. -/
def IsRow (k : IntKind) (w : World) (a : Option Addr) (len cap : Nat) (zs : List Int) : Prop :=
  (a = none ∧ len = 0 ∧ cap = 0 ∧ zs = []) ∨
  ∃ x, a = some x ∧ len ≤ cap ∧ cap ≤ maxLen ∧ zs.length = cap ∧ (∀ i, i < zs.length → w.cell? (x.add i) = some (.int k (zs.getD i 0))) ∧ ∀ n ∈ zs, (Lit.int k n).wf = true

theorem text_at (A0 : Option Addr) (c0 : Nat) (na : Bool) (xs : List Nat) (w : World) (hx : Row w (.slice A0 xs.length c0) xs) (lx : xs.length ≤ 1000) {t : List UInt8} {e : Int} {b : ByteArray} (h : textZ na xs = (t, e)) (hb : b = ⟨t.toArray⟩) :
    Calls Tryd.prog 7 #[sv na (.slice A0 xs.length c0)] w fun e' w' => e' = .returned (.tuple #[.string b, .int .i64 e]) ∧ Since w w' := by
  have k := Sg03.text_any A0 c0 na xs w hx lx
  rw [h] at k
  rw [hb]; exact k
theorem cmp_at (A0 A1 : Option Addr) (c0 c1 : Nat) (na nb : Bool) (xs ys : List Nat) (w : World) (hx : Row w (.slice A0 xs.length c0) xs) (hy : Row w (.slice A1 ys.length c1) ys) (lx : xs.length ≤ 1000) (ly : ys.length ≤ 1000) {n e : Int} (h : cmpZ na xs nb ys = (n, e)) :
    Calls Tryd.prog 19 #[sv na (.slice A0 xs.length c0), sv nb (.slice A1 ys.length c1)] w fun e' w' => e' = .returned (.tuple #[.int .i64 n, .int .i64 e]) ∧ Since w w' := by
  have k := Sg03.cmp_any A0 A1 c0 c1 na nb xs ys w hx hy lx ly
  rwa [h] at k
theorem divq (A0 A1 : Option Addr) (c0 c1 : Nat) (na nb : Bool) (xs ys : List Nat) (w : World) (hx : Row w (.slice A0 xs.length c0) xs) (hy : Row w (.slice A1 ys.length c1) ys) (lx : xs.length ≤ 1000) (ly : ys.length ≤ 1000) {n1 n2 : Bool} {s1 s2 : List Nat} {e1 : Int} (h : divZ na xs nb ys = (((n1, s1), (n2, s2)), e1)) :
    Calls Tryd.prog 16 #[sv na (.slice A0 xs.length c0), sv nb (.slice A1 ys.length c1)] w fun e w' => ∃ A c B d, e = .returned (.tuple #[sv n1 (.slice A s1.length c), sv n2 (.slice B s2.length d), .int .i64 e1]) ∧ Row w' (.slice A s1.length c) s1 ∧ Row w' (.slice B s2.length d) s2 ∧ Since w w' := by
  have k := Sg03.divmod_any A0 A1 c0 c1 na nb xs ys w hx hy lx ly
  rwa [h] at k
theorem mul_at (A0 A1 : Option Addr) (c0 c1 : Nat) (na nb : Bool) (xs ys : List Nat) (w : World) (hx : Row w (.slice A0 xs.length c0) xs) (hy : Row w (.slice A1 ys.length c1) ys) (lx : xs.length ≤ 1000) (ly : ys.length ≤ 1000) {n1 : Bool} {s1 : List Nat} {e1 : Int} (h : mulZ na xs nb ys = ((n1, s1), e1)) :
    Calls Tryd.prog 17 #[sv na (.slice A0 xs.length c0), sv nb (.slice A1 ys.length c1)] w fun e w' => ∃ A c, e = .returned (.tuple #[sv n1 (.slice A s1.length c), .int .i64 e1]) ∧ Row w' (.slice A s1.length c) s1 ∧ Since w w' := by
  have k := Sg03.mul_any A0 A1 c0 c1 na nb xs ys w hx hy lx ly
  rwa [h] at k
theorem add_at (A0 A1 : Option Addr) (c0 c1 : Nat) (na nb : Bool) (xs ys : List Nat) (w : World) (hx : Row w (.slice A0 xs.length c0) xs) (hy : Row w (.slice A1 ys.length c1) ys) (lx : xs.length ≤ 1000) (ly : ys.length ≤ 1000) {n1 : Bool} {s1 : List Nat} {e1 : Int} (h : addZ na xs nb ys = ((n1, s1), e1)) :
    Calls Tryd.prog 18 #[sv na (.slice A0 xs.length c0), sv nb (.slice A1 ys.length c1)] w fun e w' => ∃ A c, e = .returned (.tuple #[sv n1 (.slice A s1.length c), .int .i64 e1]) ∧ Row w' (.slice A s1.length c) s1 ∧ Since w w' := by
  have k := Sg03.add_any A0 A1 c0 c1 na nb xs ys w hx hy lx ly
  rwa [h] at k
theorem right_two' (A0 A1 : Option Addr) (c0 c1 : Nat) (n0 n1 : Bool) (d0 d1 : List Nat) (w : World) (h0 : Row w (.slice A0 d0.length c0) d0) (h1 : Row w (.slice A1 d1.length c1) d1) (l0 : d0.length ≤ 1000) (l1 : d1.length ≤ 1000) :
    Calls Tryd.prog 15 #[.slice (some ⟨w.heap.size, 0, none⟩) 2 2] (w.alloc (.cells #[.bool n0, .slice A0 d0.length c0, .bool n1, .slice A1 d1.length c1] 24)) fun e w' => e = .returned (.bool (srightB n0 d0 && srightB n1 d1)) ∧ Since w w' :=
  Law03.right_two w _ ⟨n0, A0, c0, d0⟩ ⟨n1, A1, c1, d1⟩ h0 h1 (by show d0.length ≤ 10000; omega) (by show d1.length ≤ 10000; omega)

set_option maxRecDepth 100000 in
set_option maxHeartbeats 40000000 in
theorem walk (b0 : Bool) (a0 : Option Addr) (len0 cap0 : Nat) (z0 : List Int) (b1 : Bool) (a1 : Option Addr) (len1 cap1 : Nat) (z1 : List Int) (a2 : ByteArray) (w : World) (w0 : IsRow .u32 w a0 len0 cap0 z0) (w1 : IsRow .u32 w a1 len1 cap1 z1) (w2 : a2.size ≤ maxLen) :
    Calls Tryd.prog 4 #[.agg #[.bool b0, .slice a0 len0 cap0], .agg #[.bool b1, .slice a1 len1 cap1], .string a2] w fun e w' => e = .returned (.bool true) ∧ Since w w' := by
  obtain ⟨d0, hl0, hr0⟩ := row_in w0
  have R0 := Lib.hid hr0
  obtain ⟨d1, hl1, hr1⟩ := row_in w1
  have R1 := Lib.hid hr1
  clear w0 hr0 w1 hr1
  subst hl0 hl1
  obtain ⟨W0, hW0⟩ : ∃ W0, W0 = (w.alloc (.cells #[.bool b0, .slice a0 d0.length cap0] 24)).alloc (.cells #[.bool b1, .slice a1 d1.length cap1] 24) := ⟨_, rfl⟩
  have HW := Lib.hid hW0
  have hS0 : Since w W0 := by rw [hW0]; exact ((Since.refl w).alloc _).alloc _
  have hold : Hid (∀ W : World, Since W0 W → (W.cell? ⟨w.heap.size, 0, none⟩ = some (.bool b0) ∧ W.cell? ⟨w.heap.size, 1, none⟩ = some (.slice a0 d0.length cap0) ∧ W.cell? ⟨w.heap.size + 1, 0, none⟩ = some (.bool b1) ∧ W.cell? ⟨w.heap.size + 1, 1, none⟩ = some (.slice a1 d1.length cap1)) ∧ Since w W) := fun W h => ⟨Ref03.hold2of (hW0 ▸ h), hS0.trans h⟩
  clear hW0
  have hK := Since.refl W0
  by_cases g : (decide (d0.length ≤ 30) && decide (d1.length ≤ 30)) = true
  rotate_left
  · have HF := Lib.hid (show (decide (d0.length ≤ 30) && decide (d1.length ≤ 30)) = false by simpa using g)
    clear g
    go_enter Tryd.func4, Tryd.ntmps4
    go_wp2_with fail
    rw [← HW.out]
    go_wp2_with (first
      | (go_at_call 5; (with_reducible refine (Alive03.alive _).mono ?_); rintro e v0 ⟨rfl, h⟩; have hK := hK.trans h; obtain ⟨⟨k0, k1, k2, k3⟩, _⟩ := hold.out _ hK)
      | (go_at_call 6; (with_reducible refine (Law03.few_two _ _ ⟨b0, a0, cap0, d0⟩ ⟨b1, a1, cap1, d1⟩).mono ?_); rw [HF.out]; rintro e vf ⟨rfl, h⟩; have hK := hK.trans h; obtain ⟨⟨k0, k1, k2, k3⟩, _⟩ := hold.out _ hK))
    go_ret
    exact ⟨rfl, hS0.trans hK⟩
  have HF := Lib.hid g
  have L0 : d0.length ≤ 30 := by simp at g; omega
  have L1 : d1.length ≤ 30 := by simp at g; omega
  have M0 := Lib.hid (show d0.length ≤ 1000 by omega)
  have M1 := Lib.hid (show d1.length ≤ 1000 by omega)
  clear g L0 L1
  by_cases gs : 300 < a2.size
  · have gd := (show decide (300 < (a2.size : Int)) = true by rw [decide_eq_true_iff]; omega)
    clear gs
    go_enter Tryd.func4, Tryd.ntmps4
    go_wp2_with fail
    rw [← HW.out]
    go_wp2_with (first
      | (go_at_call 5; (with_reducible refine (Alive03.alive _).mono ?_); rintro e v0 ⟨rfl, h⟩; have hK := hK.trans h; obtain ⟨⟨k0, k1, k2, k3⟩, _⟩ := hold.out _ hK)
      | (go_at_call 6; (with_reducible refine (Law03.few_two _ _ ⟨b0, a0, cap0, d0⟩ ⟨b1, a1, cap1, d1⟩).mono ?_); rw [HF.out]; rintro e vf ⟨rfl, h⟩; have hK := hK.trans h; obtain ⟨⟨k0, k1, k2, k3⟩, _⟩ := hold.out _ hK))
    go_ret
    exact ⟨rfl, hS0.trans hK⟩
  have gd : decide (300 < (a2.size : Int)) = false := by rw [decide_eq_false_iff_not]; omega
  have HA := Lib.hid (show a2.size ≤ 100000 by omega)
  clear gs
  obtain ⟨⟨⟨n1, s1⟩, e1⟩, E1⟩ : ∃ r, parseZ a2.data.toList = r := ⟨_, rfl⟩
  have HP := Lib.hid (show e1 = 0 → (textZ n1 s1 = (a2.data.toList, 0) ∧ srightB n1 s1 = true) ∧ s1.length ≤ 256 from fun h => by subst h; have := Tx.textZ_parseZ E1; exact ⟨⟨this.1, this.2.1⟩, this.2.2⟩)
  have E1 := Lib.hid E1
  have LL := Lib.hid (show d0.length ≤ 30 ∧ d1.length ≤ 30 by have h := HF.out; simp at h; omega)
  go_enter Tryd.func4, Tryd.ntmps4
  go_wp2_with fail
  rw [← HW.out]
  go_upto_region 6 with (first
      | (go_at_call 5; (with_reducible refine (Alive03.alive _).mono ?_); rintro e v0 ⟨rfl, h⟩; have hK := hK.trans h; obtain ⟨⟨k0, k1, k2, k3⟩, _⟩ := hold.out _ hK)
      | (go_at_call 6; (with_reducible refine (Law03.few_two _ _ ⟨b0, a0, cap0, d0⟩ ⟨b1, a1, cap1, d1⟩).mono ?_); rw [HF.out]; rintro e vf ⟨rfl, h⟩; have hK := hK.trans h; obtain ⟨⟨k0, k1, k2, k3⟩, _⟩ := hold.out _ hK)
      | (go_at_call 10; (with_reducible refine (Sg03.parse_any a2 _ HA.out).mono ?_); rw [E1.out]; rintro e v1 ⟨A1, q1, rfl, r1, h⟩; have hS := hK.trans h))
  clear hK
  have hK := Since.refl v1
  obtain ⟨W1, hW1⟩ : ∃ W1, W1 = v1.alloc (.cells #[.bool n1, .slice A1 s1.length q1] 30) := ⟨_, rfl⟩
  rw [← hW1]
  have V0 : Hid (∀ W', Since W1 W' → W'.cell? ⟨v1.heap.size, 0, none⟩ = some (.bool n1) ∧ W'.cell? ⟨v1.heap.size, 1, none⟩ = some (.slice A1 s1.length q1)) := fun W' h => by rw [hW1] at h; exact ⟨(keep2 h).1, (keep2 h).2.1⟩
  have hx : Since v1 W1 := by rw [hW1]; exact since_alloc _ _
  have hg := hK.trans hx
  have r1 := r1.since hx
  have hS := hS.trans hg
  clear hW1 hx hg hK
  generalize v1.heap.size = bk0 at *
  have hK := Since.refl W1
  go_upto_if 42 with fail
  go_cut [] (fun W => Since W1 W)
  case first =>
    by_cases he : e1 = 0
    · subst he
      have RN := Lib.hid (HP.out rfl).1.2
      have TN := Lib.hid (HP.out rfl).1.1
      have LN := Lib.hid (HP.out rfl).2
      obtain ⟨u0a, u0b⟩ := V0.out _ hK
      obtain ⟨⟨k0, k1, k2, k3⟩, _⟩ := hold.out _ hS
      go_wp2_with (first
      | (go_at_call 7; (with_reducible refine (text_at (b := a2) A1 q1 n1 s1 _ (r1.since hK) (by have := LN.out; omega) TN.out (by simp)).mono ?_); rintro e v2 ⟨rfl, h⟩; have hK := hK.trans h; obtain ⟨u0a, u0b⟩ := V0.out _ hK)
      | (go_at_call 14; (with_reducible refine (Sg03.right_any (.slice A1 s1.length q1) n1 s1 _ (r1.since hK) (by have := LN.out; omega)).mono ?_); rw [RN.out]; rintro e v3 ⟨rfl, h⟩; have hK := hK.trans h; obtain ⟨u0a, u0b⟩ := V0.out _ hK))
      go_meet
      exact hK
    · have hb : (e1 == 0) = false := by rw [beq_eq_false_iff_ne]; exact he
      go_wp2_with fail
      go_meet
      exact hK
  case rest =>
    have hS := hS.trans hcut
    clear hK
    have hK := hS
    obtain ⟨⟨k0, k1, k2, k3⟩, _⟩ := hold.out _ hK
    by_cases gr : (srightB b0 d0 && srightB b1 d1) = true
    rotate_left
    · have HR := Lib.hid (show (srightB b0 d0 && srightB b1 d1) = false by simpa using gr)
      clear gr
      go_wp2_with (first
        | (go_at_call 15; (with_reducible refine (right_two' a0 a1 cap0 cap1 b0 b1 d0 d1 _ (R0.out.since (hS0.trans hK)) (R1.out.since (hS0.trans hK)) M0.out M1.out).mono ?_); rw [HR.out]; rintro e vr ⟨rfl, h⟩; have hK := hK.trans h))
      go_ret
      exact ⟨rfl, hS0.trans hK⟩
    have HR := Lib.hid gr
    have RT := Lib.hid (show srightB b0 d0 = true ∧ srightB b1 d1 = true by simpa using gr)
    clear gr
    obtain ⟨t0, hT1, hT2, hT3⟩ := Tx.parseZ_textZ R0.out.dig RT.out.1 (by have := LL.out.1; omega)
    obtain ⟨tx, htx⟩ : ∃ b : ByteArray, b = ⟨t0.toArray⟩ := ⟨_, rfl⟩
    have P2 := Lib.hid (show parseZ tx.data.toList = ((b0, d0), 0) by rw [htx]; simpa using hT2)
    have SZ := Lib.hid (show tx.size ≤ 100000 by rw [htx]; show t0.toArray.size ≤ 100000; rw [List.size_toArray]; omega)
    have T0 := Lib.hid hT1
    have HTX := Lib.hid htx
    clear hT1 hT2 hT3 htx
    go_upto_region 14 with (first
      | (go_at_call 15; (with_reducible refine (right_two' a0 a1 cap0 cap1 b0 b1 d0 d1 _ (R0.out.since (hS0.trans hK)) (R1.out.since (hS0.trans hK)) M0.out M1.out).mono ?_); rw [HR.out]; rintro e vr ⟨rfl, h⟩; have hK := hK.trans h; obtain ⟨⟨k0, k1, k2, k3⟩, _⟩ := hold.out _ hK)
      | (go_at_call 8; (with_reducible refine (Law03.theirs_any a0 d0.length cap0 b0 _).mono ?_); rintro e v4 ⟨rfl, h⟩; have hK := hK.trans h; obtain ⟨⟨k0, k1, k2, k3⟩, _⟩ := hold.out _ hK)
      | (go_at_call 7; (with_reducible refine (text_at a0 cap0 b0 d0 _ (R0.out.since (hS0.trans hK)) M0.out T0.out HTX.out).mono ?_); rintro e v5 ⟨rfl, h⟩; have hK := hK.trans h; obtain ⟨⟨k0, k1, k2, k3⟩, _⟩ := hold.out _ hK)
      | (go_at_call 10; (with_reducible refine (Sg03.parse_any tx _ SZ.out).mono ?_); rw [P2.out]; rintro e v6 ⟨A2, q2, rfl, r2, h⟩; have hS := hK.trans h))
    clear hK
    have hK := Since.refl v6
    obtain ⟨W2, hW2⟩ : ∃ W2, W2 = v6.alloc (.cells #[.bool b0, .slice A2 d0.length q2] 30) := ⟨_, rfl⟩
    rw [← hW2]
    have V1 : Hid (∀ W', Since W2 W' → W'.cell? ⟨v6.heap.size, 0, none⟩ = some (.bool b0) ∧ W'.cell? ⟨v6.heap.size, 1, none⟩ = some (.slice A2 d0.length q2)) := fun W' h => by rw [hW2] at h; exact ⟨(keep2 h).1, (keep2 h).2.1⟩
    have hx : Since v6 W2 := by rw [hW2]; exact since_alloc _ _
    have hg := hK.trans hx
    have r2 := r2.since hx
    have hS := hS.trans hg
    clear hW2 hx hg hK
    generalize v6.heap.size = bk1 at *
    have hK := Since.refl W2
    have hall : Hid (∀ W : World, Since W2 W → (W.cell? ⟨w.heap.size, 0, none⟩ = some (.bool b0) ∧ W.cell? ⟨w.heap.size, 1, none⟩ = some (.slice a0 d0.length cap0) ∧ W.cell? ⟨w.heap.size + 1, 0, none⟩ = some (.bool b1) ∧ W.cell? ⟨w.heap.size + 1, 1, none⟩ = some (.slice a1 d1.length cap1)) ∧ (W.cell? ⟨bk1, 0, none⟩ = some (.bool b0) ∧ W.cell? ⟨bk1, 1, none⟩ = some (.slice A2 d0.length q2))) := fun W h => ⟨(hold.out _ (hS.trans h)).1, V1.out _ h⟩
    refine wp_region_noPanic ?_
    refine Reg.wp_region_G (S := fun W => (W.cell? ⟨w.heap.size, 0, none⟩ = some (.bool b0) ∧ W.cell? ⟨w.heap.size, 1, none⟩ = some (.slice a0 d0.length cap0) ∧ W.cell? ⟨w.heap.size + 1, 0, none⟩ = some (.bool b1) ∧ W.cell? ⟨w.heap.size + 1, 1, none⟩ = some (.slice a1 d1.length cap1)) ∧ (W.cell? ⟨bk1, 0, none⟩ = some (.bool b0) ∧ W.cell? ⟨bk1, 1, none⟩ = some (.slice A2 d0.length q2))) (fun j => [].contains j) (by kernel_rfl) ?_ ?_
    · exact hall.out _ (Since.drew (Since.refl W2))
    refine' Reg.wpG_take (i := 0) (oi := { dst := some 76, op := Op.move (Operand.tmp 12), type := 27, pos := "law.go:157", after := #[], guard := none }) (v := _) [1, 2, 3, 4, 5, 6, 7, 8, 9, 10, 11, 12] [] rfl rfl (by kernel_rfl) (by kernel_rfl) (by kernel_rfl) (by kernel_rfl) (by kernel_rfl) (by kernel_rfl) (by kernel_rfl) (fun _ _ _ h => h) (Or.inl ⟨by rfl, Or.inl ?hy1⟩) ?rest1
    case hy1 => (intro w' kk ss; (try dsimp only at ss); go_simp; first | done | with_reducible rfl)
    try simp only [Act.put, List.setIfInBounds_toArray, List.set_cons_zero, List.set_cons_succ]
    refine' Reg.wpG_take (i := 1) (oi := { dst := some 77, op := Op.binOp BinOp.neq 27 (Operand.tmp 76) (Operand.const (Value.int IntKind.i64 0)) 27, type := 4, pos := "law.go:157", after := #[{ on := 0, ground := Ground.data }], guard := none }) (v := _) [2, 3, 4, 5, 6, 7, 8, 9, 10, 11, 12] [] rfl rfl (by kernel_rfl) (by kernel_rfl) (by kernel_rfl) (by kernel_rfl) (by kernel_rfl) (by kernel_rfl) (by kernel_rfl) (fun _ _ _ h => h) (Or.inl ⟨by rfl, Or.inl ?hy2⟩) ?rest2
    case hy2 => (intro w' kk ss; (try dsimp only at ss); go_simp; first | done | with_reducible rfl)
    try simp only [Act.put, List.setIfInBounds_toArray, List.set_cons_zero, List.set_cons_succ]
    refine' Reg.wpG_take (i := 2) (oi := { dst := some 78, op := Op.move (Operand.tmp 77), type := 4, pos := "law.go:157", after := #[{ on := 1, ground := Ground.data }], guard := none }) (v := _) [3, 4, 5, 6, 7, 8, 9, 10, 11, 12] [] rfl rfl (by kernel_rfl) (by kernel_rfl) (by kernel_rfl) (by kernel_rfl) (by kernel_rfl) (by kernel_rfl) (by kernel_rfl) (fun _ _ _ h => h) (Or.inl ⟨by rfl, Or.inl ?hy3⟩) ?rest3
    case hy3 => (intro w' kk ss; (try dsimp only at ss); go_simp; first | done | with_reducible rfl)
    try simp only [Act.put, List.setIfInBounds_toArray, List.set_cons_zero, List.set_cons_succ]
    refine' Reg.wpG_take (i := 3) (oi := { dst := some 79, op := Op.move (Operand.tmp 14), type := 27, pos := "law.go:157", after := #[{ on := 2, ground := Ground.guard }], guard := some (2, false) }) (v := _) [4, 5, 6, 7, 8, 9, 10, 11, 12] [] rfl rfl (by kernel_rfl) (by kernel_rfl) (by kernel_rfl) (by kernel_rfl) (by kernel_rfl) (by kernel_rfl) (by kernel_rfl) (fun _ _ _ h => h) (Or.inl ⟨by rfl, Or.inl ?hy4⟩) ?rest4
    case hy4 => (intro w' kk ss; (try dsimp only at ss); go_simp; first | done | with_reducible rfl)
    try simp only [Act.put, List.setIfInBounds_toArray, List.set_cons_zero, List.set_cons_succ]
    refine' Reg.wpG_take (i := 4) (oi := { dst := some 80, op := Op.binOp BinOp.neq 27 (Operand.tmp 79) (Operand.const (Value.int IntKind.i64 0)) 27, type := 4, pos := "law.go:157", after := #[{ on := 3, ground := Ground.data }, { on := 2, ground := Ground.guard }], guard := some (2, false) }) (v := _) [5, 6, 7, 8, 9, 10, 11, 12] [] rfl rfl (by kernel_rfl) (by kernel_rfl) (by kernel_rfl) (by kernel_rfl) (by kernel_rfl) (by kernel_rfl) (by kernel_rfl) (fun _ _ _ h => h) (Or.inl ⟨by rfl, Or.inl ?hy5⟩) ?rest5
    case hy5 => (intro w' kk ss; (try dsimp only at ss); go_simp; first | done | with_reducible rfl)
    try simp only [Act.put, List.setIfInBounds_toArray, List.set_cons_zero, List.set_cons_succ]
    refine' Reg.wpG_take (i := 5) (oi := { dst := some 81, op := Op.pick (Operand.tmp 78) (Operand.const (Value.bool true)) (Operand.tmp 80), type := 4, pos := "law.go:157", after := #[{ on := 2, ground := Ground.data }, { on := 4, ground := Ground.data }], guard := none }) (v := _) [6, 7, 8, 9, 10, 11, 12] [] rfl rfl (by kernel_rfl) (by kernel_rfl) (by kernel_rfl) (by kernel_rfl) (by kernel_rfl) (by kernel_rfl) (by kernel_rfl) (fun _ _ _ h => h) (Or.inl ⟨by rfl, Or.inl ?hy6⟩) ?rest6
    case hy6 => (intro w' kk ss; (try dsimp only at ss); go_simp; first | done | with_reducible rfl)
    try simp only [Act.put, List.setIfInBounds_toArray, List.set_cons_zero, List.set_cons_succ]
    refine' Reg.wpG_take (i := 6) (oi := { dst := some 82, op := Op.move (Operand.tmp 81), type := 4, pos := "law.go:157", after := #[{ on := 5, ground := Ground.data }, { on := 2, ground := Ground.chain }], guard := none }) (v := _) [7, 8, 9, 10, 11, 12] [] rfl rfl (by kernel_rfl) (by kernel_rfl) (by kernel_rfl) (by kernel_rfl) (by kernel_rfl) (by kernel_rfl) (by kernel_rfl) (fun _ _ _ h => h) (Or.inl ⟨by rfl, Or.inl ?hy7⟩) ?rest7
    case hy7 => (intro w' kk ss; (try dsimp only at ss); go_simp; first | done | with_reducible rfl)
    try simp only [Act.put, List.setIfInBounds_toArray, List.set_cons_zero, List.set_cons_succ]
    refine' Reg.wpG_take (i := 7) (oi := { dst := some 83, op := Op.load 30 (Operand.tmp 13), type := 30, pos := "law.go:157", after := #[{ on := 6, ground := Ground.guard }], guard := some (6, false) }) (v := _) [8, 10, 11, 12] [] rfl rfl (by kernel_rfl) (by kernel_rfl) (by kernel_rfl) (by kernel_rfl) (by kernel_rfl) (by kernel_rfl) (by kernel_rfl) (fun _ _ _ h => h) (Or.inl ⟨by rfl, Or.inl ?hy8⟩) ?rest8
    case hy8 => (intro w' kk ss; (try dsimp only at ss); go_simp; first | done | with_reducible rfl)
    try simp only [Act.put, List.setIfInBounds_toArray, List.set_cons_zero, List.set_cons_succ]
    refine Reg.wpG_take (i := 8) (oi := { dst := some 84, op := Op.call { callee := Callee.value (Operand.func 13), args := #[Operand.tmp 83], argTypes := #[30] }, type := 24, pos := "law.go:157", after := #[{ on := 7, ground := Ground.data }, { on := 6, ground := Ground.chain }, { on := 6, ground := Ground.guard }], guard := some (6, false) }) (v := sv b0 (.slice A2 d0.length q2)) [10, 11, 12] [] rfl rfl (by kernel_rfl) (by kernel_rfl) (by kernel_rfl) (by kernel_rfl) (by kernel_rfl) (by kernel_rfl) (by kernel_rfl) (fun _ _ _ h => h) (Or.inl ⟨by rfl, Or.inr ⟨13, #[sv b0 (.slice A2 d0.length q2)], fun w' kk ss => ⟨?_, ?_⟩⟩⟩) ?_
    · (try dsimp only at ss); go_simp
    · exact (Law03.ours_any A2 d0.length q2 b0 w').mono fun e w'' h => ⟨h.1, h.2, hall.out _ ((Since.drew (Since.refl W2)).trans (kk.trans h.2))⟩
    try simp only [Act.put, List.setIfInBounds_toArray, List.set_cons_zero, List.set_cons_succ]
    refine' Reg.wpG_take (i := 9) (oi := { dst := some 85, op := Op.load 24 (Operand.tmp 3), type := 24, pos := "law.go:157", after := #[{ on := 6, ground := Ground.guard }], guard := some (6, false) }) (v := _) [10, 11, 12] [] rfl rfl (by kernel_rfl) (by kernel_rfl) (by kernel_rfl) (by kernel_rfl) (by kernel_rfl) (by kernel_rfl) (by kernel_rfl) (fun _ _ _ h => h) (Or.inl ⟨by rfl, Or.inl ?hy9⟩) ?rest9
    case hy9 => (intro w' kk ss; (try dsimp only at ss); go_simp; first | done | with_reducible rfl)
    try simp only [Act.put, List.setIfInBounds_toArray, List.set_cons_zero, List.set_cons_succ]
    refine Reg.wpG_take (i := 10) (oi := { dst := some 86, op := Op.call { callee := Callee.value (Operand.func 12), args := #[Operand.tmp 84, Operand.tmp 85], argTypes := #[24, 24] }, type := 4, pos := "law.go:157", after := #[{ on := 8, ground := Ground.data }, { on := 9, ground := Ground.data }, { on := 8, ground := Ground.chain }, { on := 6, ground := Ground.guard }], guard := some (6, false) }) (v := .bool true) [11, 12] [] rfl rfl (by kernel_rfl) (by kernel_rfl) (by kernel_rfl) (by kernel_rfl) (by kernel_rfl) (by kernel_rfl) (by kernel_rfl) (fun _ _ _ h => h) (Or.inl ⟨by rfl, Or.inr ⟨12, #[sv b0 (.slice A2 d0.length q2), sv b0 (.slice a0 d0.length cap0)], fun w' kk ss => ⟨?_, ?_⟩⟩⟩) ?_
    · (try dsimp only at ss); go_simp
    · exact (Law03.same_self A2 a0 q2 cap0 b0 d0 w' (r2.since ((Since.drew (Since.refl W2)).trans kk)) (R0.out.since (hS0.trans (hS.trans ((Since.drew (Since.refl W2)).trans kk)))) (by have := M0.out; omega)).mono fun e w'' h => ⟨h.1, h.2, hall.out _ ((Since.drew (Since.refl W2)).trans (kk.trans h.2))⟩
    try simp only [Act.put, List.setIfInBounds_toArray, List.set_cons_zero, List.set_cons_succ]
    refine' Reg.wpG_take (i := 11) (oi := { dst := some 87, op := Op.unOp UnOp.not 4 (Operand.tmp 86), type := 4, pos := "law.go:157", after := #[{ on := 10, ground := Ground.data }, { on := 6, ground := Ground.guard }], guard := some (6, false) }) (v := _) [12] [] rfl rfl (by kernel_rfl) (by kernel_rfl) (by kernel_rfl) (by kernel_rfl) (by kernel_rfl) (by kernel_rfl) (by kernel_rfl) (fun _ _ _ h => h) (Or.inl ⟨by rfl, Or.inl ?hy10⟩) ?rest10
    case hy10 => (intro w' kk ss; (try dsimp only at ss); go_simp; first | done | with_reducible rfl)
    try simp only [Act.put, List.setIfInBounds_toArray, List.set_cons_zero, List.set_cons_succ]
    refine' Reg.wpG_take (i := 12) (oi := { dst := some 88, op := Op.pick (Operand.tmp 82) (Operand.const (Value.bool true)) (Operand.tmp 87), type := 4, pos := "law.go:157", after := #[{ on := 6, ground := Ground.data }, { on := 11, ground := Ground.data }], guard := none }) (v := _) [] [] rfl rfl (by kernel_rfl) (by kernel_rfl) (by kernel_rfl) (by kernel_rfl) (by kernel_rfl) (by kernel_rfl) (by kernel_rfl) (fun _ _ _ h => h) (Or.inl ⟨by rfl, Or.inl ?hy11⟩) ?rest11
    case hy11 => (intro w' kk ss; (try dsimp only at ss); go_simp; first | done | with_reducible rfl)
    try simp only [Act.put, List.setIfInBounds_toArray, List.set_cons_zero, List.set_cons_succ]
    refine Reg.wpG_done (by kernel_rfl) (fun we ke se => ?_) _
    refine NoPanic.normal ?_
    have hK := (Since.drew (Since.refl W2)).trans ke
    clear ke
    have hS := hS.trans hK
    clear hK
    obtain ⟨⟨k0, k1, k2, k3⟩, _⟩ := hold.out _ hS
    by_cases h0 : d1.length = 0
    · have hz : ((d1.length : Int) == 0) = true := by rw [beq_iff_eq]; omega
      go_wp2_with fail
      go_ret
      exact ⟨rfl, hS0.trans hS⟩
    have hz : ((d1.length : Int) == 0) = false := by rw [beq_eq_false_iff_ne]; omega
    obtain ⟨n3, s3, n4, s4, n5, s5, D1, D2, D3, D4, D5, D6, D7, D8⟩ := Bk.back_div R0.out.dig R1.out.dig RT.out.1 RT.out.2 h0 LL.out.1 LL.out.2
    have D1 := Lib.hid D1
    have D2 := Lib.hid D2
    have D3 := Lib.hid D3
    have D4 := Lib.hid D4
    have D5 := Lib.hid D5
    have DL := Lib.hid (And.intro D6 (And.intro D7 D8))
    clear D6 D7 D8 h0
    go_upto_region 18 with fail
    have hZ := hS
    go_cut [15, 16, 17] (fun p15 p16 p17 W => ∃ (c0 : Nat) (c1 : Nat) (A3 : Option Addr) (q3 : Nat) (A4 : Option Addr) (q4 : Nat), p15 = .pointer (some ⟨c0, 0, none⟩) ∧ p16 = .pointer (some ⟨c1, 0, none⟩) ∧ p17 = .int .i64 0 ∧ Since we W ∧ Row W (.slice A3 s3.length q3) s3 ∧ Row W (.slice A4 s4.length q4) s4 ∧ (W.cell? ⟨c0, 0, none⟩ = some (.bool n3) ∧ W.cell? ⟨c0, 1, none⟩ = some (.slice A3 s3.length q3)) ∧ (W.cell? ⟨c1, 0, none⟩ = some (.bool n4) ∧ W.cell? ⟨c1, 1, none⟩ = some (.slice A4 s4.length q4)))
    case first =>
      have hSall : Hid (∀ W : World, Since we W → W.cell? ⟨w.heap.size, 0, none⟩ = some (.bool b0) ∧ W.cell? ⟨w.heap.size, 1, none⟩ = some (.slice a0 d0.length cap0) ∧ W.cell? ⟨w.heap.size + 1, 0, none⟩ = some (.bool b1) ∧ W.cell? ⟨w.heap.size + 1, 1, none⟩ = some (.slice a1 d1.length cap1)) := fun W h => (hold.out _ (hZ.trans h)).1
      have hr0 : Since we we.drew := Since.drew (Since.refl _)
      refine wp_region_noPanic ?_
      refine Reg.wp_region_G (S := fun W => W.cell? ⟨w.heap.size, 0, none⟩ = some (.bool b0) ∧ W.cell? ⟨w.heap.size, 1, none⟩ = some (.slice a0 d0.length cap0) ∧ W.cell? ⟨w.heap.size + 1, 0, none⟩ = some (.bool b1) ∧ W.cell? ⟨w.heap.size + 1, 1, none⟩ = some (.slice a1 d1.length cap1)) (fun j => [4, 5, 6, 7, 8, 11, 12, 13].contains j) (by kernel_rfl) ?_ ?_
      · exact hSall.out _ (hr0)
      refine' Reg.wpG_take (i := 0) (oi := { dst := some 94, op := Op.load 24 (Operand.tmp 3), type := 24, pos := "law.go:163", after := #[], guard := none }) (v := _) [1, 3, 4, 5, 6, 7, 8, 11, 12, 13] [4, 5, 6, 7, 8, 11, 12, 13] rfl rfl (by kernel_rfl) (by kernel_rfl) (by kernel_rfl) (by kernel_rfl) (by kernel_rfl) (by kernel_rfl) (by kernel_rfl) (fun _ _ _ h => h) (Or.inl ⟨by rfl, Or.inl ?hy12⟩) ?rest12
      case hy12 => (intro w' kk ss; (try dsimp only at ss); go_simp; first | done | with_reducible rfl)
      try simp only [Act.put, List.setIfInBounds_toArray, List.set_cons_zero, List.set_cons_succ]
      refine Reg.wpG_take (i := 1) (oi := { dst := some 95, op := Op.call { callee := Callee.value (Operand.func 8), args := #[Operand.tmp 94], argTypes := #[24] }, type := 30, pos := "law.go:163", after := #[{ on := 0, ground := Ground.data }], guard := none }) (v := sv b0 (.slice a0 d0.length cap0)) [3, 4, 5, 6, 7, 8, 11, 12, 13] [4, 5, 6, 7, 8, 11, 12, 13] rfl rfl (by kernel_rfl) (by kernel_rfl) (by kernel_rfl) (by kernel_rfl) (by kernel_rfl) (by kernel_rfl) (by kernel_rfl) (fun _ _ _ h => h) (Or.inl ⟨by rfl, Or.inr ⟨8, #[sv b0 (.slice a0 d0.length cap0)], fun w' kk ss => ⟨?_, ?_⟩⟩⟩) ?_
      · (try dsimp only at ss); go_simp
      · exact (Law03.theirs_any a0 d0.length cap0 b0 w').mono fun e w'' h => ⟨h.1, h.2, hSall.out _ ((hr0.trans (kk.trans h.2)))⟩
      try simp only [Act.put, List.setIfInBounds_toArray, List.set_cons_zero, List.set_cons_succ]
      refine' Reg.wpG_take (i := 2) (oi := { dst := some 96, op := Op.load 24 (Operand.tmp 4), type := 24, pos := "law.go:163", after := #[], guard := none }) (v := _) [3, 4, 5, 6, 7, 8, 11, 12, 13] [4, 5, 6, 7, 8, 11, 12, 13] rfl rfl (by kernel_rfl) (by kernel_rfl) (by kernel_rfl) (by kernel_rfl) (by kernel_rfl) (by kernel_rfl) (by kernel_rfl) (fun _ _ _ h => h) (Or.inl ⟨by rfl, Or.inl ?hy13⟩) ?rest13
      case hy13 => (intro w' kk ss; (try dsimp only at ss); go_simp; first | done | with_reducible rfl)
      try simp only [Act.put, List.setIfInBounds_toArray, List.set_cons_zero, List.set_cons_succ]
      refine Reg.wpG_take (i := 3) (oi := { dst := some 97, op := Op.call { callee := Callee.value (Operand.func 8), args := #[Operand.tmp 96], argTypes := #[24] }, type := 30, pos := "law.go:163", after := #[{ on := 2, ground := Ground.data }, { on := 1, ground := Ground.chain }], guard := none }) (v := sv b1 (.slice a1 d1.length cap1)) [4, 5, 6, 7, 8, 11, 12, 13] [4, 5, 6, 7, 8, 11, 12, 13] rfl rfl (by kernel_rfl) (by kernel_rfl) (by kernel_rfl) (by kernel_rfl) (by kernel_rfl) (by kernel_rfl) (by kernel_rfl) (fun _ _ _ h => h) (Or.inl ⟨by rfl, Or.inr ⟨8, #[sv b1 (.slice a1 d1.length cap1)], fun w' kk ss => ⟨?_, ?_⟩⟩⟩) ?_
      · (try dsimp only at ss); go_simp
      · exact (Law03.theirs_any a1 d1.length cap1 b1 w').mono fun e w'' h => ⟨h.1, h.2, hSall.out _ ((hr0.trans (kk.trans h.2)))⟩
      try simp only [Act.put, List.setIfInBounds_toArray, List.set_cons_zero, List.set_cons_succ]
      refine Reg.wpG_ready (rs := [4, 9, 10]) (by kernel_rfl) (by simp) (fun wq1 k1' sq1 => ?_)
      have hr0 := hr0.trans k1'
      refine Reg.AllG.last (o := { dst := some 98, op := Op.call { callee := Callee.value (Operand.func 16), args := #[Operand.tmp 95, Operand.tmp 97], argTypes := #[30, 30] }, type := 42, pos := "law.go:163", after := #[{ on := 1, ground := Ground.data }, { on := 3, ground := Ground.data }, { on := 3, ground := Ground.chain }], guard := none }) rfl (by rfl) (fun K hK => ?_) (Reg.AllG.first (o := { dst := some 15, op := Op.alloc 30, type := 0, pos := "law.go:163", after := #[], guard := none }) rfl (by rfl) (fun K hK => ?_) (Reg.AllG.first (o := { dst := some 16, op := Op.alloc 30, type := 0, pos := "law.go:163", after := #[], guard := none }) rfl (by rfl) (fun K hK => ?_) Reg.AllG.nil))
      · go_simp
        (with_reducible refine (divq a0 a1 cap0 cap1 b0 b1 d0 d1 wq1 (R0.out.since (hS0.trans (hZ.trans hr0))) (R1.out.since (hS0.trans (hZ.trans hr0))) M0.out M1.out D1.out).mono ?_)
        rintro e y ⟨A3, q3, A4, q4, rfl, r3, r4, hx⟩
        have hr0 := hr0.trans hx
        have hby := hr0.size
        refine hK.out _ _ ?_ (fun hHeld => ?_)
        · exact hSall.out _ (hr0)
        clear hK K
        try simp only [Act.put, List.setIfInBounds_toArray, List.set_cons_zero, List.set_cons_succ]
        refine' wpAnyH_take (i := 5) (oi := { dst := some 93, op := Op.move (Operand.tmp 98), type := 42, pos := "law.go:163", after := #[{ on := 4, ground := Ground.data }], guard := none }) (v := _) rfl (by kernel_rfl) (by kernel_rfl) (by kernel_rfl) (fun _ _ _ h => h) (Or.inl ⟨by rfl, ?hy14⟩) (by assumption) ?rest14
        case hy14 => (intro w' ss; (try dsimp only at ss); go_simp; first | done | with_reducible rfl)
        try simp only [Act.put, List.setIfInBounds_toArray, List.set_cons_zero, List.set_cons_succ]
        refine' wpAnyH_take (i := 6) (oi := { dst := some 99, op := Op.extract (Operand.tmp 93) 0, type := 30, pos := "law.go:163", after := #[{ on := 5, ground := Ground.data }], guard := none }) (v := _) rfl (by kernel_rfl) (by kernel_rfl) (by kernel_rfl) (fun _ _ _ h => h) (Or.inl ⟨by rfl, ?hy15⟩) (by assumption) ?rest15
        case hy15 => (intro w' ss; (try dsimp only at ss); go_simp; first | done | with_reducible rfl)
        try simp only [Act.put, List.setIfInBounds_toArray, List.set_cons_zero, List.set_cons_succ]
        refine' wpAnyH_take (i := 7) (oi := { dst := some 100, op := Op.extract (Operand.tmp 93) 1, type := 30, pos := "law.go:163", after := #[{ on := 5, ground := Ground.data }, { on := 11, ground := Ground.gcOnly Departure.lateStores }], guard := none }) (v := _) rfl (by kernel_rfl) (by kernel_rfl) (by kernel_rfl) (fun _ _ _ h => h) (Or.inl ⟨by rfl, ?hy16⟩) (by assumption) ?rest16
        case hy16 => (intro w' ss; (try dsimp only at ss); go_simp; first | done | with_reducible rfl)
        try simp only [Act.put, List.setIfInBounds_toArray, List.set_cons_zero, List.set_cons_succ]
        refine' wpAnyH_take (i := 8) (oi := { dst := some 101, op := Op.extract (Operand.tmp 93) 2, type := 27, pos := "law.go:163", after := #[{ on := 5, ground := Ground.data }, { on := 12, ground := Ground.gcOnly Departure.lateStores }], guard := none }) (v := _) rfl (by kernel_rfl) (by kernel_rfl) (by kernel_rfl) (fun _ _ _ h => h) (Or.inl ⟨by rfl, ?hy17⟩) (by assumption) ?rest17
        case hy17 => (intro w' ss; (try dsimp only at ss); go_simp; first | done | with_reducible rfl)
        try simp only [Act.put, List.setIfInBounds_toArray, List.set_cons_zero, List.set_cons_succ]
        refine wpAnyH_ready (rs := [9, 10]) (by kernel_rfl) (by simp) ?_
        refine AllReadyH.cons (o := { dst := some 15, op := Op.alloc 30, type := 0, pos := "law.go:163", after := #[], guard := none }) rfl (fun K hK => ?_) (AllReadyH.cons (o := { dst := some 16, op := Op.alloc 30, type := 0, pos := "law.go:163", after := #[], guard := none }) rfl (fun K hK => ?_) AllReadyH.nil)
        · go_simp
          refine hK.out _ _ ?_ (fun hHeld => ?_)
          · refine hSall.out _ ?_; repeat (first | (with_reducible assumption) | (with_reducible exact Since.refl _) | (with_reducible refine Since.alloc ?_ _) | (with_reducible refine Since.set ?_ ?_ _; rotate_left; first | (with_reducible exact Nat.le_refl _) | (with_reducible assumption) | (with_reducible exact hby) | (dsimp only; omega)))
          clear hK K
          try simp only [Act.put, List.setIfInBounds_toArray, List.set_cons_zero, List.set_cons_succ]
          refine wpAnyH_ready (rs := [10]) (by kernel_rfl) (by simp) ?_
          refine AllReadyH.cons (o := { dst := some 16, op := Op.alloc 30, type := 0, pos := "law.go:163", after := #[], guard := none }) rfl (fun K hK => ?_) AllReadyH.nil
          · go_simp
            refine hK.out _ _ ?_ (fun hHeld => ?_)
            · refine hSall.out _ ?_; repeat (first | (with_reducible assumption) | (with_reducible exact Since.refl _) | (with_reducible refine Since.alloc ?_ _) | (with_reducible refine Since.set ?_ ?_ _; rotate_left; first | (with_reducible exact Nat.le_refl _) | (with_reducible assumption) | (with_reducible exact hby) | (dsimp only; omega)))
            clear hK K
            try simp only [Act.put, List.setIfInBounds_toArray, List.set_cons_zero, List.set_cons_succ]
            refine wpAnyH_ready (rs := [11]) (by kernel_rfl) (by simp) ?_
            refine AllReadyH.cons (o := { dst := none, op := Op.store 30 (Operand.tmp 15) (Operand.tmp 99), type := 0, pos := "law.go:163", after := #[{ on := 9, ground := Ground.data }, { on := 6, ground := Ground.data }, { on := 4, ground := Ground.chain }, { on := 0, ground := Ground.phase }, { on := 1, ground := Ground.phase }, { on := 2, ground := Ground.phase }, { on := 3, ground := Ground.phase }, { on := 4, ground := Ground.phase }, { on := 5, ground := Ground.phase }, { on := 6, ground := Ground.phase }, { on := 7, ground := Ground.textOnly Departure.lateStores }, { on := 8, ground := Ground.textOnly Departure.lateStores }, { on := 9, ground := Ground.phase }, { on := 10, ground := Ground.phase }], guard := none }) rfl (fun K hK => ?_) AllReadyH.nil
            · go_simp
              refine hK.out _ _ ?_ (fun hHeld => ?_)
              · refine hSall.out _ ?_; repeat (first | (with_reducible assumption) | (with_reducible exact Since.refl _) | (with_reducible refine Since.alloc ?_ _) | (with_reducible refine Since.set ?_ ?_ _; rotate_left; first | (with_reducible exact Nat.le_refl _) | (with_reducible assumption) | (with_reducible exact hby) | (dsimp only; omega)))
              clear hK K
              try simp only [Act.put, List.setIfInBounds_toArray, List.set_cons_zero, List.set_cons_succ]
              refine wpAnyH_ready (rs := [12]) (by kernel_rfl) (by simp) ?_
              refine AllReadyH.cons (o := { dst := none, op := Op.store 30 (Operand.tmp 16) (Operand.tmp 100), type := 0, pos := "law.go:163", after := #[{ on := 10, ground := Ground.data }, { on := 7, ground := Ground.data }, { on := 11, ground := Ground.chain }, { on := 0, ground := Ground.phase }, { on := 1, ground := Ground.phase }, { on := 2, ground := Ground.phase }, { on := 3, ground := Ground.phase }, { on := 4, ground := Ground.phase }, { on := 5, ground := Ground.phase }, { on := 6, ground := Ground.phase }, { on := 7, ground := Ground.phase }, { on := 8, ground := Ground.textOnly Departure.lateStores }, { on := 9, ground := Ground.phase }, { on := 10, ground := Ground.phase }, { on := 11, ground := Ground.phase }], guard := none }) rfl (fun K hK => ?_) AllReadyH.nil
              · go_simp
                refine hK.out _ _ ?_ (fun hHeld => ?_)
                · refine hSall.out _ ?_; repeat (first | (with_reducible assumption) | (with_reducible exact Since.refl _) | (with_reducible refine Since.alloc ?_ _) | (with_reducible refine Since.set ?_ ?_ _; rotate_left; first | (with_reducible exact Nat.le_refl _) | (with_reducible assumption) | (with_reducible exact hby) | (dsimp only; omega)))
                clear hK K
                try simp only [Act.put, List.setIfInBounds_toArray, List.set_cons_zero, List.set_cons_succ]
                refine' wpAnyH_take (i := 13) (oi := { dst := some 17, op := Op.assign (Operand.tmp 101), type := 27, pos := "law.go:163", after := #[{ on := 8, ground := Ground.data }, { on := 12, ground := Ground.chain }, { on := 0, ground := Ground.phase }, { on := 1, ground := Ground.phase }, { on := 2, ground := Ground.phase }, { on := 3, ground := Ground.phase }, { on := 4, ground := Ground.phase }, { on := 5, ground := Ground.phase }, { on := 6, ground := Ground.phase }, { on := 7, ground := Ground.phase }, { on := 8, ground := Ground.phase }, { on := 9, ground := Ground.phase }, { on := 10, ground := Ground.phase }, { on := 11, ground := Ground.phase }, { on := 12, ground := Ground.phase }], guard := none }) (v := _) rfl (by kernel_rfl) (by kernel_rfl) (by kernel_rfl) (fun _ _ _ h => h) (Or.inl ⟨by rfl, ?hy18⟩) (by assumption) ?rest18
                case hy18 => (intro w' ss; (try dsimp only at ss); go_simp; first | done | with_reducible rfl)
                try simp only [Act.put, List.setIfInBounds_toArray, List.set_cons_zero, List.set_cons_succ]
                refine wpAnyH_done (by kernel_rfl) ?_ _
                refine NoPanic.normal ?_
                go_wp2_with fail
                go_meet
                refine ⟨_, _, A3, q3, A4, q4, rfl, rfl, rfl, ?_, ?_, ?_, ⟨?_, ?_⟩, ⟨?_, ?_⟩⟩
                · repeat (first | (with_reducible assumption) | (with_reducible exact Since.refl _) | (with_reducible refine Since.alloc ?_ _) | (with_reducible refine Since.set ?_ ?_ _; rotate_left; first | (with_reducible exact Nat.le_refl _) | (with_reducible assumption) | (with_reducible exact hby) | (dsimp only; omega)))
                · repeat (first | (with_reducible exact r3) | (with_reducible refine Row.since ?_ (since_alloc _ _)) | ((with_reducible refine Law03.row_put0 ?_ ?_); rotate_left; (focus (go_simp; done))) | ((with_reducible refine Law03.row_put1 ?_ ?_); rotate_left; (focus (go_simp; done))))
                · repeat (first | (with_reducible exact r4) | (with_reducible refine Row.since ?_ (since_alloc _ _)) | ((with_reducible refine Law03.row_put0 ?_ ?_); rotate_left; (focus (go_simp; done))) | ((with_reducible refine Law03.row_put1 ?_ ?_); rotate_left; (focus (go_simp; done))))
                · go_simp
                · go_simp
                · go_simp
                · go_simp
        · go_simp
          refine hK.out _ _ ?_ (fun hHeld => ?_)
          · refine hSall.out _ ?_; repeat (first | (with_reducible assumption) | (with_reducible exact Since.refl _) | (with_reducible refine Since.alloc ?_ _) | (with_reducible refine Since.set ?_ ?_ _; rotate_left; first | (with_reducible exact Nat.le_refl _) | (with_reducible assumption) | (with_reducible exact hby) | (dsimp only; omega)))
          clear hK K
          try simp only [Act.put, List.setIfInBounds_toArray, List.set_cons_zero, List.set_cons_succ]
          refine wpAnyH_ready (rs := [9]) (by kernel_rfl) (by simp) ?_
          refine AllReadyH.cons (o := { dst := some 15, op := Op.alloc 30, type := 0, pos := "law.go:163", after := #[], guard := none }) rfl (fun K hK => ?_) AllReadyH.nil
          · go_simp
            refine hK.out _ _ ?_ (fun hHeld => ?_)
            · refine hSall.out _ ?_; repeat (first | (with_reducible assumption) | (with_reducible exact Since.refl _) | (with_reducible refine Since.alloc ?_ _) | (with_reducible refine Since.set ?_ ?_ _; rotate_left; first | (with_reducible exact Nat.le_refl _) | (with_reducible assumption) | (with_reducible exact hby) | (dsimp only; omega)))
            clear hK K
            try simp only [Act.put, List.setIfInBounds_toArray, List.set_cons_zero, List.set_cons_succ]
            refine wpAnyH_ready (rs := [11]) (by kernel_rfl) (by simp) ?_
            refine AllReadyH.cons (o := { dst := none, op := Op.store 30 (Operand.tmp 15) (Operand.tmp 99), type := 0, pos := "law.go:163", after := #[{ on := 9, ground := Ground.data }, { on := 6, ground := Ground.data }, { on := 4, ground := Ground.chain }, { on := 0, ground := Ground.phase }, { on := 1, ground := Ground.phase }, { on := 2, ground := Ground.phase }, { on := 3, ground := Ground.phase }, { on := 4, ground := Ground.phase }, { on := 5, ground := Ground.phase }, { on := 6, ground := Ground.phase }, { on := 7, ground := Ground.textOnly Departure.lateStores }, { on := 8, ground := Ground.textOnly Departure.lateStores }, { on := 9, ground := Ground.phase }, { on := 10, ground := Ground.phase }], guard := none }) rfl (fun K hK => ?_) AllReadyH.nil
            · go_simp
              refine hK.out _ _ ?_ (fun hHeld => ?_)
              · refine hSall.out _ ?_; repeat (first | (with_reducible assumption) | (with_reducible exact Since.refl _) | (with_reducible refine Since.alloc ?_ _) | (with_reducible refine Since.set ?_ ?_ _; rotate_left; first | (with_reducible exact Nat.le_refl _) | (with_reducible assumption) | (with_reducible exact hby) | (dsimp only; omega)))
              clear hK K
              try simp only [Act.put, List.setIfInBounds_toArray, List.set_cons_zero, List.set_cons_succ]
              refine wpAnyH_ready (rs := [12]) (by kernel_rfl) (by simp) ?_
              refine AllReadyH.cons (o := { dst := none, op := Op.store 30 (Operand.tmp 16) (Operand.tmp 100), type := 0, pos := "law.go:163", after := #[{ on := 10, ground := Ground.data }, { on := 7, ground := Ground.data }, { on := 11, ground := Ground.chain }, { on := 0, ground := Ground.phase }, { on := 1, ground := Ground.phase }, { on := 2, ground := Ground.phase }, { on := 3, ground := Ground.phase }, { on := 4, ground := Ground.phase }, { on := 5, ground := Ground.phase }, { on := 6, ground := Ground.phase }, { on := 7, ground := Ground.phase }, { on := 8, ground := Ground.textOnly Departure.lateStores }, { on := 9, ground := Ground.phase }, { on := 10, ground := Ground.phase }, { on := 11, ground := Ground.phase }], guard := none }) rfl (fun K hK => ?_) AllReadyH.nil
              · go_simp
                refine hK.out _ _ ?_ (fun hHeld => ?_)
                · refine hSall.out _ ?_; repeat (first | (with_reducible assumption) | (with_reducible exact Since.refl _) | (with_reducible refine Since.alloc ?_ _) | (with_reducible refine Since.set ?_ ?_ _; rotate_left; first | (with_reducible exact Nat.le_refl _) | (with_reducible assumption) | (with_reducible exact hby) | (dsimp only; omega)))
                clear hK K
                try simp only [Act.put, List.setIfInBounds_toArray, List.set_cons_zero, List.set_cons_succ]
                refine' wpAnyH_take (i := 13) (oi := { dst := some 17, op := Op.assign (Operand.tmp 101), type := 27, pos := "law.go:163", after := #[{ on := 8, ground := Ground.data }, { on := 12, ground := Ground.chain }, { on := 0, ground := Ground.phase }, { on := 1, ground := Ground.phase }, { on := 2, ground := Ground.phase }, { on := 3, ground := Ground.phase }, { on := 4, ground := Ground.phase }, { on := 5, ground := Ground.phase }, { on := 6, ground := Ground.phase }, { on := 7, ground := Ground.phase }, { on := 8, ground := Ground.phase }, { on := 9, ground := Ground.phase }, { on := 10, ground := Ground.phase }, { on := 11, ground := Ground.phase }, { on := 12, ground := Ground.phase }], guard := none }) (v := _) rfl (by kernel_rfl) (by kernel_rfl) (by kernel_rfl) (fun _ _ _ h => h) (Or.inl ⟨by rfl, ?hy19⟩) (by assumption) ?rest19
                case hy19 => (intro w' ss; (try dsimp only at ss); go_simp; first | done | with_reducible rfl)
                try simp only [Act.put, List.setIfInBounds_toArray, List.set_cons_zero, List.set_cons_succ]
                refine wpAnyH_done (by kernel_rfl) ?_ _
                refine NoPanic.normal ?_
                go_wp2_with fail
                go_meet
                refine ⟨_, _, A3, q3, A4, q4, rfl, rfl, rfl, ?_, ?_, ?_, ⟨?_, ?_⟩, ⟨?_, ?_⟩⟩
                · repeat (first | (with_reducible assumption) | (with_reducible exact Since.refl _) | (with_reducible refine Since.alloc ?_ _) | (with_reducible refine Since.set ?_ ?_ _; rotate_left; first | (with_reducible exact Nat.le_refl _) | (with_reducible assumption) | (with_reducible exact hby) | (dsimp only; omega)))
                · repeat (first | (with_reducible exact r3) | (with_reducible refine Row.since ?_ (since_alloc _ _)) | ((with_reducible refine Law03.row_put0 ?_ ?_); rotate_left; (focus (go_simp; done))) | ((with_reducible refine Law03.row_put1 ?_ ?_); rotate_left; (focus (go_simp; done))))
                · repeat (first | (with_reducible exact r4) | (with_reducible refine Row.since ?_ (since_alloc _ _)) | ((with_reducible refine Law03.row_put0 ?_ ?_); rotate_left; (focus (go_simp; done))) | ((with_reducible refine Law03.row_put1 ?_ ?_); rotate_left; (focus (go_simp; done))))
                · go_simp
                · go_simp
                · go_simp
                · go_simp
      · go_simp
        refine hK.out _ _ ?_ (since_alloc _ _) ?_
        · exact hSall.out _ ((hr0.trans (since_alloc _ _)))
        clear hK K
        try simp only [Act.put, List.setIfInBounds_toArray, List.set_cons_zero, List.set_cons_succ]
        have Z9 := Law03.Zero.fresh wq1 30
        have hb9 := hr0.size
        have hr0 := hr0.trans (since_alloc wq1 (.cells #[.bool false, .slice none 0 0] 30))
        refine Reg.wpG_ready (rs := [4, 10]) (by kernel_rfl) (by simp) (fun wq2 k2' sq2 => ?_)
        have hr0 := hr0.trans k2'
        have Z9 := Z9.since k2'
        refine Reg.AllG.last (o := { dst := some 98, op := Op.call { callee := Callee.value (Operand.func 16), args := #[Operand.tmp 95, Operand.tmp 97], argTypes := #[30, 30] }, type := 42, pos := "law.go:163", after := #[{ on := 1, ground := Ground.data }, { on := 3, ground := Ground.data }, { on := 3, ground := Ground.chain }], guard := none }) rfl (by rfl) (fun K hK => ?_) (Reg.AllG.first (o := { dst := some 16, op := Op.alloc 30, type := 0, pos := "law.go:163", after := #[], guard := none }) rfl (by rfl) (fun K hK => ?_) Reg.AllG.nil)
        · go_simp
          (with_reducible refine (divq a0 a1 cap0 cap1 b0 b1 d0 d1 wq2 (R0.out.since (hS0.trans (hZ.trans hr0))) (R1.out.since (hS0.trans (hZ.trans hr0))) M0.out M1.out D1.out).mono ?_)
          rintro e y ⟨A3, q3, A4, q4, rfl, r3, r4, hx⟩
          have hr0 := hr0.trans hx
          have hby := hr0.size
          have Z9 := Z9.since hx
          refine hK.out _ _ ?_ (fun hHeld => ?_)
          · exact hSall.out _ (hr0)
          clear hK K
          try simp only [Act.put, List.setIfInBounds_toArray, List.set_cons_zero, List.set_cons_succ]
          have u9 : wq1.heap.size ≠ y.heap.size := Nat.ne_of_lt Z9.lt
          have u9' : y.heap.size ≠ wq1.heap.size := Ne.symm u9
          refine' wpAnyH_take (i := 5) (oi := { dst := some 93, op := Op.move (Operand.tmp 98), type := 42, pos := "law.go:163", after := #[{ on := 4, ground := Ground.data }], guard := none }) (v := _) rfl (by kernel_rfl) (by kernel_rfl) (by kernel_rfl) (fun _ _ _ h => h) (Or.inl ⟨by rfl, ?hy20⟩) (by assumption) ?rest20
          case hy20 => (intro w' ss; (try dsimp only at ss); go_simp; first | done | with_reducible rfl)
          try simp only [Act.put, List.setIfInBounds_toArray, List.set_cons_zero, List.set_cons_succ]
          refine' wpAnyH_take (i := 6) (oi := { dst := some 99, op := Op.extract (Operand.tmp 93) 0, type := 30, pos := "law.go:163", after := #[{ on := 5, ground := Ground.data }], guard := none }) (v := _) rfl (by kernel_rfl) (by kernel_rfl) (by kernel_rfl) (fun _ _ _ h => h) (Or.inl ⟨by rfl, ?hy21⟩) (by assumption) ?rest21
          case hy21 => (intro w' ss; (try dsimp only at ss); go_simp; first | done | with_reducible rfl)
          try simp only [Act.put, List.setIfInBounds_toArray, List.set_cons_zero, List.set_cons_succ]
          refine' wpAnyH_take (i := 7) (oi := { dst := some 100, op := Op.extract (Operand.tmp 93) 1, type := 30, pos := "law.go:163", after := #[{ on := 5, ground := Ground.data }, { on := 11, ground := Ground.gcOnly Departure.lateStores }], guard := none }) (v := _) rfl (by kernel_rfl) (by kernel_rfl) (by kernel_rfl) (fun _ _ _ h => h) (Or.inl ⟨by rfl, ?hy22⟩) (by assumption) ?rest22
          case hy22 => (intro w' ss; (try dsimp only at ss); go_simp; first | done | with_reducible rfl)
          try simp only [Act.put, List.setIfInBounds_toArray, List.set_cons_zero, List.set_cons_succ]
          refine' wpAnyH_take (i := 8) (oi := { dst := some 101, op := Op.extract (Operand.tmp 93) 2, type := 27, pos := "law.go:163", after := #[{ on := 5, ground := Ground.data }, { on := 12, ground := Ground.gcOnly Departure.lateStores }], guard := none }) (v := _) rfl (by kernel_rfl) (by kernel_rfl) (by kernel_rfl) (fun _ _ _ h => h) (Or.inl ⟨by rfl, ?hy23⟩) (by assumption) ?rest23
          case hy23 => (intro w' ss; (try dsimp only at ss); go_simp; first | done | with_reducible rfl)
          try simp only [Act.put, List.setIfInBounds_toArray, List.set_cons_zero, List.set_cons_succ]
          refine wpAnyH_ready (rs := [10]) (by kernel_rfl) (by simp) ?_
          refine AllReadyH.cons (o := { dst := some 16, op := Op.alloc 30, type := 0, pos := "law.go:163", after := #[], guard := none }) rfl (fun K hK => ?_) AllReadyH.nil
          · go_simp
            refine hK.out _ _ ?_ (fun hHeld => ?_)
            · refine hSall.out _ ?_; repeat (first | (with_reducible assumption) | (with_reducible exact Since.refl _) | (with_reducible refine Since.alloc ?_ _) | (with_reducible refine Since.set ?_ ?_ _; rotate_left; first | (with_reducible exact Nat.le_refl _) | (with_reducible assumption) | (with_reducible exact hby) | (dsimp only; omega)))
            clear hK K
            try simp only [Act.put, List.setIfInBounds_toArray, List.set_cons_zero, List.set_cons_succ]
            refine wpAnyH_ready (rs := [11]) (by kernel_rfl) (by simp) ?_
            refine AllReadyH.cons (o := { dst := none, op := Op.store 30 (Operand.tmp 15) (Operand.tmp 99), type := 0, pos := "law.go:163", after := #[{ on := 9, ground := Ground.data }, { on := 6, ground := Ground.data }, { on := 4, ground := Ground.chain }, { on := 0, ground := Ground.phase }, { on := 1, ground := Ground.phase }, { on := 2, ground := Ground.phase }, { on := 3, ground := Ground.phase }, { on := 4, ground := Ground.phase }, { on := 5, ground := Ground.phase }, { on := 6, ground := Ground.phase }, { on := 7, ground := Ground.textOnly Departure.lateStores }, { on := 8, ground := Ground.textOnly Departure.lateStores }, { on := 9, ground := Ground.phase }, { on := 10, ground := Ground.phase }], guard := none }) rfl (fun K hK => ?_) AllReadyH.nil
            · have z9a : ∀ o0, (y.alloc o0).cell? ⟨wq1.heap.size, 0, none⟩ = some (.bool false) := fun o0 => (Z9.since (since_alloc y o0)).1
              have z9b : ∀ o0, (y.alloc o0).cell? ⟨wq1.heap.size, 1, none⟩ = some (.slice none 0 0) := fun o0 => (Z9.since (since_alloc y o0)).2.1
              have z9c : ∀ o0, (y.alloc o0).frozen? ⟨wq1.heap.size, 0, none⟩ = false := fun o0 => (Z9.since (since_alloc y o0)).2.2.1
              have z9d : ∀ o0, (y.alloc o0).frozen? ⟨wq1.heap.size, 1, none⟩ = false := fun o0 => (Z9.since (since_alloc y o0)).2.2.2
              go_simp
              refine hK.out _ _ ?_ (fun hHeld => ?_)
              · refine hSall.out _ ?_; repeat (first | (with_reducible assumption) | (with_reducible exact Since.refl _) | (with_reducible refine Since.alloc ?_ _) | (with_reducible refine Since.set ?_ ?_ _; rotate_left; first | (with_reducible exact Nat.le_refl _) | (with_reducible assumption) | (with_reducible exact hb9) | (with_reducible exact hby) | (dsimp only; omega)))
              clear hK K
              try simp only [Act.put, List.setIfInBounds_toArray, List.set_cons_zero, List.set_cons_succ]
              refine wpAnyH_ready (rs := [12]) (by kernel_rfl) (by simp) ?_
              refine AllReadyH.cons (o := { dst := none, op := Op.store 30 (Operand.tmp 16) (Operand.tmp 100), type := 0, pos := "law.go:163", after := #[{ on := 10, ground := Ground.data }, { on := 7, ground := Ground.data }, { on := 11, ground := Ground.chain }, { on := 0, ground := Ground.phase }, { on := 1, ground := Ground.phase }, { on := 2, ground := Ground.phase }, { on := 3, ground := Ground.phase }, { on := 4, ground := Ground.phase }, { on := 5, ground := Ground.phase }, { on := 6, ground := Ground.phase }, { on := 7, ground := Ground.phase }, { on := 8, ground := Ground.textOnly Departure.lateStores }, { on := 9, ground := Ground.phase }, { on := 10, ground := Ground.phase }, { on := 11, ground := Ground.phase }], guard := none }) rfl (fun K hK => ?_) AllReadyH.nil
              · go_simp
                refine hK.out _ _ ?_ (fun hHeld => ?_)
                · refine hSall.out _ ?_; repeat (first | (with_reducible assumption) | (with_reducible exact Since.refl _) | (with_reducible refine Since.alloc ?_ _) | (with_reducible refine Since.set ?_ ?_ _; rotate_left; first | (with_reducible exact Nat.le_refl _) | (with_reducible assumption) | (with_reducible exact hb9) | (with_reducible exact hby) | (dsimp only; omega)))
                clear hK K
                try simp only [Act.put, List.setIfInBounds_toArray, List.set_cons_zero, List.set_cons_succ]
                refine' wpAnyH_take (i := 13) (oi := { dst := some 17, op := Op.assign (Operand.tmp 101), type := 27, pos := "law.go:163", after := #[{ on := 8, ground := Ground.data }, { on := 12, ground := Ground.chain }, { on := 0, ground := Ground.phase }, { on := 1, ground := Ground.phase }, { on := 2, ground := Ground.phase }, { on := 3, ground := Ground.phase }, { on := 4, ground := Ground.phase }, { on := 5, ground := Ground.phase }, { on := 6, ground := Ground.phase }, { on := 7, ground := Ground.phase }, { on := 8, ground := Ground.phase }, { on := 9, ground := Ground.phase }, { on := 10, ground := Ground.phase }, { on := 11, ground := Ground.phase }, { on := 12, ground := Ground.phase }], guard := none }) (v := _) rfl (by kernel_rfl) (by kernel_rfl) (by kernel_rfl) (fun _ _ _ h => h) (Or.inl ⟨by rfl, ?hy24⟩) (by assumption) ?rest24
                case hy24 => (intro w' ss; (try dsimp only at ss); go_simp; first | done | with_reducible rfl)
                try simp only [Act.put, List.setIfInBounds_toArray, List.set_cons_zero, List.set_cons_succ]
                refine wpAnyH_done (by kernel_rfl) ?_ _
                refine NoPanic.normal ?_
                go_wp2_with fail
                go_meet
                refine ⟨_, _, A3, q3, A4, q4, rfl, rfl, rfl, ?_, ?_, ?_, ⟨?_, ?_⟩, ⟨?_, ?_⟩⟩
                · repeat (first | (with_reducible assumption) | (with_reducible exact Since.refl _) | (with_reducible refine Since.alloc ?_ _) | (with_reducible refine Since.set ?_ ?_ _; rotate_left; first | (with_reducible exact Nat.le_refl _) | (with_reducible assumption) | (with_reducible exact hb9) | (with_reducible exact hby) | (dsimp only; omega)))
                · repeat (first | (with_reducible exact r3) | (with_reducible refine Row.since ?_ (since_alloc _ _)) | ((with_reducible refine Law03.row_put0 ?_ ?_); rotate_left; (focus (go_simp; done))) | ((with_reducible refine Law03.row_put1 ?_ ?_); rotate_left; (focus (go_simp; done))))
                · repeat (first | (with_reducible exact r4) | (with_reducible refine Row.since ?_ (since_alloc _ _)) | ((with_reducible refine Law03.row_put0 ?_ ?_); rotate_left; (focus (go_simp; done))) | ((with_reducible refine Law03.row_put1 ?_ ?_); rotate_left; (focus (go_simp; done))))
                · go_simp
                · go_simp
                · go_simp
                · go_simp
        · go_simp
          refine hK.out _ _ ?_ (since_alloc _ _) ?_
          · exact hSall.out _ ((hr0.trans (since_alloc _ _)))
          clear hK K
          try simp only [Act.put, List.setIfInBounds_toArray, List.set_cons_zero, List.set_cons_succ]
          have q9 : wq1.heap.size ≠ wq2.heap.size := Nat.ne_of_lt Z9.lt
          have q9' : wq2.heap.size ≠ wq1.heap.size := Ne.symm q9
          have Z9 := Z9.since (since_alloc wq2 (.cells #[.bool false, .slice none 0 0] 30))
          have Z10 := Law03.Zero.fresh wq2 30
          have hb10 := hr0.size
          have hr0 := hr0.trans (since_alloc wq2 (.cells #[.bool false, .slice none 0 0] 30))
          refine Reg.wpG_ready (rs := [4]) (by kernel_rfl) (by simp) (fun wq3 k3' sq3 => ?_)
          have hr0 := hr0.trans k3'
          have Z9 := Z9.since k3'
          have Z10 := Z10.since k3'
          refine Reg.AllG.last (o := { dst := some 98, op := Op.call { callee := Callee.value (Operand.func 16), args := #[Operand.tmp 95, Operand.tmp 97], argTypes := #[30, 30] }, type := 42, pos := "law.go:163", after := #[{ on := 1, ground := Ground.data }, { on := 3, ground := Ground.data }, { on := 3, ground := Ground.chain }], guard := none }) rfl (by rfl) (fun K hK => ?_) Reg.AllG.nil
          · go_simp
            (with_reducible refine (divq a0 a1 cap0 cap1 b0 b1 d0 d1 wq3 (R0.out.since (hS0.trans (hZ.trans hr0))) (R1.out.since (hS0.trans (hZ.trans hr0))) M0.out M1.out D1.out).mono ?_)
            rintro e y ⟨A3, q3, A4, q4, rfl, r3, r4, hx⟩
            have hr0 := hr0.trans hx
            have hby := hr0.size
            have Z9 := Z9.since hx
            have Z10 := Z10.since hx
            refine hK.out _ _ ?_ (fun hHeld => ?_)
            · exact hSall.out _ (hr0)
            clear hK K
            try simp only [Act.put, List.setIfInBounds_toArray, List.set_cons_zero, List.set_cons_succ]
            have u9 : wq1.heap.size ≠ y.heap.size := Nat.ne_of_lt Z9.lt
            have u10 : wq2.heap.size ≠ y.heap.size := Nat.ne_of_lt Z10.lt
            have u9' : y.heap.size ≠ wq1.heap.size := Ne.symm u9
            have u10' : y.heap.size ≠ wq2.heap.size := Ne.symm u10
            refine' wpAnyH_take (i := 5) (oi := { dst := some 93, op := Op.move (Operand.tmp 98), type := 42, pos := "law.go:163", after := #[{ on := 4, ground := Ground.data }], guard := none }) (v := _) rfl (by kernel_rfl) (by kernel_rfl) (by kernel_rfl) (fun _ _ _ h => h) (Or.inl ⟨by rfl, ?hy25⟩) (by assumption) ?rest25
            case hy25 => (intro w' ss; (try dsimp only at ss); go_simp; first | done | with_reducible rfl)
            try simp only [Act.put, List.setIfInBounds_toArray, List.set_cons_zero, List.set_cons_succ]
            refine' wpAnyH_take (i := 6) (oi := { dst := some 99, op := Op.extract (Operand.tmp 93) 0, type := 30, pos := "law.go:163", after := #[{ on := 5, ground := Ground.data }], guard := none }) (v := _) rfl (by kernel_rfl) (by kernel_rfl) (by kernel_rfl) (fun _ _ _ h => h) (Or.inl ⟨by rfl, ?hy26⟩) (by assumption) ?rest26
            case hy26 => (intro w' ss; (try dsimp only at ss); go_simp; first | done | with_reducible rfl)
            try simp only [Act.put, List.setIfInBounds_toArray, List.set_cons_zero, List.set_cons_succ]
            refine' wpAnyH_take (i := 7) (oi := { dst := some 100, op := Op.extract (Operand.tmp 93) 1, type := 30, pos := "law.go:163", after := #[{ on := 5, ground := Ground.data }, { on := 11, ground := Ground.gcOnly Departure.lateStores }], guard := none }) (v := _) rfl (by kernel_rfl) (by kernel_rfl) (by kernel_rfl) (fun _ _ _ h => h) (Or.inl ⟨by rfl, ?hy27⟩) (by assumption) ?rest27
            case hy27 => (intro w' ss; (try dsimp only at ss); go_simp; first | done | with_reducible rfl)
            try simp only [Act.put, List.setIfInBounds_toArray, List.set_cons_zero, List.set_cons_succ]
            refine' wpAnyH_take (i := 8) (oi := { dst := some 101, op := Op.extract (Operand.tmp 93) 2, type := 27, pos := "law.go:163", after := #[{ on := 5, ground := Ground.data }, { on := 12, ground := Ground.gcOnly Departure.lateStores }], guard := none }) (v := _) rfl (by kernel_rfl) (by kernel_rfl) (by kernel_rfl) (fun _ _ _ h => h) (Or.inl ⟨by rfl, ?hy28⟩) (by assumption) ?rest28
            case hy28 => (intro w' ss; (try dsimp only at ss); go_simp; first | done | with_reducible rfl)
            try simp only [Act.put, List.setIfInBounds_toArray, List.set_cons_zero, List.set_cons_succ]
            refine wpAnyH_ready (rs := [11]) (by kernel_rfl) (by simp) ?_
            refine AllReadyH.cons (o := { dst := none, op := Op.store 30 (Operand.tmp 15) (Operand.tmp 99), type := 0, pos := "law.go:163", after := #[{ on := 9, ground := Ground.data }, { on := 6, ground := Ground.data }, { on := 4, ground := Ground.chain }, { on := 0, ground := Ground.phase }, { on := 1, ground := Ground.phase }, { on := 2, ground := Ground.phase }, { on := 3, ground := Ground.phase }, { on := 4, ground := Ground.phase }, { on := 5, ground := Ground.phase }, { on := 6, ground := Ground.phase }, { on := 7, ground := Ground.textOnly Departure.lateStores }, { on := 8, ground := Ground.textOnly Departure.lateStores }, { on := 9, ground := Ground.phase }, { on := 10, ground := Ground.phase }], guard := none }) rfl (fun K hK => ?_) AllReadyH.nil
            · obtain ⟨z9a, z9b, z9c, z9d⟩ := Z9
              obtain ⟨z10a, z10b, z10c, z10d⟩ := Z10
              go_simp
              refine hK.out _ _ ?_ (fun hHeld => ?_)
              · refine hSall.out _ ?_; repeat (first | (with_reducible assumption) | (with_reducible exact Since.refl _) | (with_reducible refine Since.alloc ?_ _) | (with_reducible refine Since.set ?_ ?_ _; rotate_left; first | (with_reducible exact Nat.le_refl _) | (with_reducible assumption) | (with_reducible exact hb9) | (with_reducible exact hb10) | (with_reducible exact hby) | (dsimp only; omega)))
              clear hK K
              try simp only [Act.put, List.setIfInBounds_toArray, List.set_cons_zero, List.set_cons_succ]
              refine wpAnyH_ready (rs := [12]) (by kernel_rfl) (by simp) ?_
              refine AllReadyH.cons (o := { dst := none, op := Op.store 30 (Operand.tmp 16) (Operand.tmp 100), type := 0, pos := "law.go:163", after := #[{ on := 10, ground := Ground.data }, { on := 7, ground := Ground.data }, { on := 11, ground := Ground.chain }, { on := 0, ground := Ground.phase }, { on := 1, ground := Ground.phase }, { on := 2, ground := Ground.phase }, { on := 3, ground := Ground.phase }, { on := 4, ground := Ground.phase }, { on := 5, ground := Ground.phase }, { on := 6, ground := Ground.phase }, { on := 7, ground := Ground.phase }, { on := 8, ground := Ground.textOnly Departure.lateStores }, { on := 9, ground := Ground.phase }, { on := 10, ground := Ground.phase }, { on := 11, ground := Ground.phase }], guard := none }) rfl (fun K hK => ?_) AllReadyH.nil
              · go_simp
                refine hK.out _ _ ?_ (fun hHeld => ?_)
                · refine hSall.out _ ?_; repeat (first | (with_reducible assumption) | (with_reducible exact Since.refl _) | (with_reducible refine Since.alloc ?_ _) | (with_reducible refine Since.set ?_ ?_ _; rotate_left; first | (with_reducible exact Nat.le_refl _) | (with_reducible assumption) | (with_reducible exact hb9) | (with_reducible exact hb10) | (with_reducible exact hby) | (dsimp only; omega)))
                clear hK K
                try simp only [Act.put, List.setIfInBounds_toArray, List.set_cons_zero, List.set_cons_succ]
                refine' wpAnyH_take (i := 13) (oi := { dst := some 17, op := Op.assign (Operand.tmp 101), type := 27, pos := "law.go:163", after := #[{ on := 8, ground := Ground.data }, { on := 12, ground := Ground.chain }, { on := 0, ground := Ground.phase }, { on := 1, ground := Ground.phase }, { on := 2, ground := Ground.phase }, { on := 3, ground := Ground.phase }, { on := 4, ground := Ground.phase }, { on := 5, ground := Ground.phase }, { on := 6, ground := Ground.phase }, { on := 7, ground := Ground.phase }, { on := 8, ground := Ground.phase }, { on := 9, ground := Ground.phase }, { on := 10, ground := Ground.phase }, { on := 11, ground := Ground.phase }, { on := 12, ground := Ground.phase }], guard := none }) (v := _) rfl (by kernel_rfl) (by kernel_rfl) (by kernel_rfl) (fun _ _ _ h => h) (Or.inl ⟨by rfl, ?hy29⟩) (by assumption) ?rest29
                case hy29 => (intro w' ss; (try dsimp only at ss); go_simp; first | done | with_reducible rfl)
                try simp only [Act.put, List.setIfInBounds_toArray, List.set_cons_zero, List.set_cons_succ]
                refine wpAnyH_done (by kernel_rfl) ?_ _
                refine NoPanic.normal ?_
                go_wp2_with fail
                go_meet
                refine ⟨_, _, A3, q3, A4, q4, rfl, rfl, rfl, ?_, ?_, ?_, ⟨?_, ?_⟩, ⟨?_, ?_⟩⟩
                · repeat (first | (with_reducible assumption) | (with_reducible exact Since.refl _) | (with_reducible refine Since.alloc ?_ _) | (with_reducible refine Since.set ?_ ?_ _; rotate_left; first | (with_reducible exact Nat.le_refl _) | (with_reducible assumption) | (with_reducible exact hb9) | (with_reducible exact hb10) | (with_reducible exact hby) | (dsimp only; omega)))
                · repeat (first | (with_reducible exact r3) | (with_reducible refine Row.since ?_ (since_alloc _ _)) | ((with_reducible refine Law03.row_put0 ?_ ?_); rotate_left; (focus (go_simp; done))) | ((with_reducible refine Law03.row_put1 ?_ ?_); rotate_left; (focus (go_simp; done))))
                · repeat (first | (with_reducible exact r4) | (with_reducible refine Row.since ?_ (since_alloc _ _)) | ((with_reducible refine Law03.row_put0 ?_ ?_); rotate_left; (focus (go_simp; done))) | ((with_reducible refine Law03.row_put1 ?_ ?_); rotate_left; (focus (go_simp; done))))
                · go_simp
                · go_simp
                · go_simp
                · go_simp
      · go_simp
        refine hK.out _ _ ?_ (since_alloc _ _) ?_
        · exact hSall.out _ ((hr0.trans (since_alloc _ _)))
        clear hK K
        try simp only [Act.put, List.setIfInBounds_toArray, List.set_cons_zero, List.set_cons_succ]
        have Z10 := Law03.Zero.fresh wq1 30
        have hb10 := hr0.size
        have hr0 := hr0.trans (since_alloc wq1 (.cells #[.bool false, .slice none 0 0] 30))
        refine Reg.wpG_ready (rs := [4, 9]) (by kernel_rfl) (by simp) (fun wq2 k2' sq2 => ?_)
        have hr0 := hr0.trans k2'
        have Z10 := Z10.since k2'
        refine Reg.AllG.last (o := { dst := some 98, op := Op.call { callee := Callee.value (Operand.func 16), args := #[Operand.tmp 95, Operand.tmp 97], argTypes := #[30, 30] }, type := 42, pos := "law.go:163", after := #[{ on := 1, ground := Ground.data }, { on := 3, ground := Ground.data }, { on := 3, ground := Ground.chain }], guard := none }) rfl (by rfl) (fun K hK => ?_) (Reg.AllG.first (o := { dst := some 15, op := Op.alloc 30, type := 0, pos := "law.go:163", after := #[], guard := none }) rfl (by rfl) (fun K hK => ?_) Reg.AllG.nil)
        · go_simp
          (with_reducible refine (divq a0 a1 cap0 cap1 b0 b1 d0 d1 wq2 (R0.out.since (hS0.trans (hZ.trans hr0))) (R1.out.since (hS0.trans (hZ.trans hr0))) M0.out M1.out D1.out).mono ?_)
          rintro e y ⟨A3, q3, A4, q4, rfl, r3, r4, hx⟩
          have hr0 := hr0.trans hx
          have hby := hr0.size
          have Z10 := Z10.since hx
          refine hK.out _ _ ?_ (fun hHeld => ?_)
          · exact hSall.out _ (hr0)
          clear hK K
          try simp only [Act.put, List.setIfInBounds_toArray, List.set_cons_zero, List.set_cons_succ]
          have u10 : wq1.heap.size ≠ y.heap.size := Nat.ne_of_lt Z10.lt
          have u10' : y.heap.size ≠ wq1.heap.size := Ne.symm u10
          refine' wpAnyH_take (i := 5) (oi := { dst := some 93, op := Op.move (Operand.tmp 98), type := 42, pos := "law.go:163", after := #[{ on := 4, ground := Ground.data }], guard := none }) (v := _) rfl (by kernel_rfl) (by kernel_rfl) (by kernel_rfl) (fun _ _ _ h => h) (Or.inl ⟨by rfl, ?hy30⟩) (by assumption) ?rest30
          case hy30 => (intro w' ss; (try dsimp only at ss); go_simp; first | done | with_reducible rfl)
          try simp only [Act.put, List.setIfInBounds_toArray, List.set_cons_zero, List.set_cons_succ]
          refine' wpAnyH_take (i := 6) (oi := { dst := some 99, op := Op.extract (Operand.tmp 93) 0, type := 30, pos := "law.go:163", after := #[{ on := 5, ground := Ground.data }], guard := none }) (v := _) rfl (by kernel_rfl) (by kernel_rfl) (by kernel_rfl) (fun _ _ _ h => h) (Or.inl ⟨by rfl, ?hy31⟩) (by assumption) ?rest31
          case hy31 => (intro w' ss; (try dsimp only at ss); go_simp; first | done | with_reducible rfl)
          try simp only [Act.put, List.setIfInBounds_toArray, List.set_cons_zero, List.set_cons_succ]
          refine' wpAnyH_take (i := 7) (oi := { dst := some 100, op := Op.extract (Operand.tmp 93) 1, type := 30, pos := "law.go:163", after := #[{ on := 5, ground := Ground.data }, { on := 11, ground := Ground.gcOnly Departure.lateStores }], guard := none }) (v := _) rfl (by kernel_rfl) (by kernel_rfl) (by kernel_rfl) (fun _ _ _ h => h) (Or.inl ⟨by rfl, ?hy32⟩) (by assumption) ?rest32
          case hy32 => (intro w' ss; (try dsimp only at ss); go_simp; first | done | with_reducible rfl)
          try simp only [Act.put, List.setIfInBounds_toArray, List.set_cons_zero, List.set_cons_succ]
          refine' wpAnyH_take (i := 8) (oi := { dst := some 101, op := Op.extract (Operand.tmp 93) 2, type := 27, pos := "law.go:163", after := #[{ on := 5, ground := Ground.data }, { on := 12, ground := Ground.gcOnly Departure.lateStores }], guard := none }) (v := _) rfl (by kernel_rfl) (by kernel_rfl) (by kernel_rfl) (fun _ _ _ h => h) (Or.inl ⟨by rfl, ?hy33⟩) (by assumption) ?rest33
          case hy33 => (intro w' ss; (try dsimp only at ss); go_simp; first | done | with_reducible rfl)
          try simp only [Act.put, List.setIfInBounds_toArray, List.set_cons_zero, List.set_cons_succ]
          refine wpAnyH_ready (rs := [9]) (by kernel_rfl) (by simp) ?_
          refine AllReadyH.cons (o := { dst := some 15, op := Op.alloc 30, type := 0, pos := "law.go:163", after := #[], guard := none }) rfl (fun K hK => ?_) AllReadyH.nil
          · go_simp
            refine hK.out _ _ ?_ (fun hHeld => ?_)
            · refine hSall.out _ ?_; repeat (first | (with_reducible assumption) | (with_reducible exact Since.refl _) | (with_reducible refine Since.alloc ?_ _) | (with_reducible refine Since.set ?_ ?_ _; rotate_left; first | (with_reducible exact Nat.le_refl _) | (with_reducible assumption) | (with_reducible exact hby) | (dsimp only; omega)))
            clear hK K
            try simp only [Act.put, List.setIfInBounds_toArray, List.set_cons_zero, List.set_cons_succ]
            refine wpAnyH_ready (rs := [11]) (by kernel_rfl) (by simp) ?_
            refine AllReadyH.cons (o := { dst := none, op := Op.store 30 (Operand.tmp 15) (Operand.tmp 99), type := 0, pos := "law.go:163", after := #[{ on := 9, ground := Ground.data }, { on := 6, ground := Ground.data }, { on := 4, ground := Ground.chain }, { on := 0, ground := Ground.phase }, { on := 1, ground := Ground.phase }, { on := 2, ground := Ground.phase }, { on := 3, ground := Ground.phase }, { on := 4, ground := Ground.phase }, { on := 5, ground := Ground.phase }, { on := 6, ground := Ground.phase }, { on := 7, ground := Ground.textOnly Departure.lateStores }, { on := 8, ground := Ground.textOnly Departure.lateStores }, { on := 9, ground := Ground.phase }, { on := 10, ground := Ground.phase }], guard := none }) rfl (fun K hK => ?_) AllReadyH.nil
            · have z10a : ∀ o0, (y.alloc o0).cell? ⟨wq1.heap.size, 0, none⟩ = some (.bool false) := fun o0 => (Z10.since (since_alloc y o0)).1
              have z10b : ∀ o0, (y.alloc o0).cell? ⟨wq1.heap.size, 1, none⟩ = some (.slice none 0 0) := fun o0 => (Z10.since (since_alloc y o0)).2.1
              have z10c : ∀ o0, (y.alloc o0).frozen? ⟨wq1.heap.size, 0, none⟩ = false := fun o0 => (Z10.since (since_alloc y o0)).2.2.1
              have z10d : ∀ o0, (y.alloc o0).frozen? ⟨wq1.heap.size, 1, none⟩ = false := fun o0 => (Z10.since (since_alloc y o0)).2.2.2
              go_simp
              refine hK.out _ _ ?_ (fun hHeld => ?_)
              · refine hSall.out _ ?_; repeat (first | (with_reducible assumption) | (with_reducible exact Since.refl _) | (with_reducible refine Since.alloc ?_ _) | (with_reducible refine Since.set ?_ ?_ _; rotate_left; first | (with_reducible exact Nat.le_refl _) | (with_reducible assumption) | (with_reducible exact hb10) | (with_reducible exact hby) | (dsimp only; omega)))
              clear hK K
              try simp only [Act.put, List.setIfInBounds_toArray, List.set_cons_zero, List.set_cons_succ]
              refine wpAnyH_ready (rs := [12]) (by kernel_rfl) (by simp) ?_
              refine AllReadyH.cons (o := { dst := none, op := Op.store 30 (Operand.tmp 16) (Operand.tmp 100), type := 0, pos := "law.go:163", after := #[{ on := 10, ground := Ground.data }, { on := 7, ground := Ground.data }, { on := 11, ground := Ground.chain }, { on := 0, ground := Ground.phase }, { on := 1, ground := Ground.phase }, { on := 2, ground := Ground.phase }, { on := 3, ground := Ground.phase }, { on := 4, ground := Ground.phase }, { on := 5, ground := Ground.phase }, { on := 6, ground := Ground.phase }, { on := 7, ground := Ground.phase }, { on := 8, ground := Ground.textOnly Departure.lateStores }, { on := 9, ground := Ground.phase }, { on := 10, ground := Ground.phase }, { on := 11, ground := Ground.phase }], guard := none }) rfl (fun K hK => ?_) AllReadyH.nil
              · go_simp
                refine hK.out _ _ ?_ (fun hHeld => ?_)
                · refine hSall.out _ ?_; repeat (first | (with_reducible assumption) | (with_reducible exact Since.refl _) | (with_reducible refine Since.alloc ?_ _) | (with_reducible refine Since.set ?_ ?_ _; rotate_left; first | (with_reducible exact Nat.le_refl _) | (with_reducible assumption) | (with_reducible exact hb10) | (with_reducible exact hby) | (dsimp only; omega)))
                clear hK K
                try simp only [Act.put, List.setIfInBounds_toArray, List.set_cons_zero, List.set_cons_succ]
                refine' wpAnyH_take (i := 13) (oi := { dst := some 17, op := Op.assign (Operand.tmp 101), type := 27, pos := "law.go:163", after := #[{ on := 8, ground := Ground.data }, { on := 12, ground := Ground.chain }, { on := 0, ground := Ground.phase }, { on := 1, ground := Ground.phase }, { on := 2, ground := Ground.phase }, { on := 3, ground := Ground.phase }, { on := 4, ground := Ground.phase }, { on := 5, ground := Ground.phase }, { on := 6, ground := Ground.phase }, { on := 7, ground := Ground.phase }, { on := 8, ground := Ground.phase }, { on := 9, ground := Ground.phase }, { on := 10, ground := Ground.phase }, { on := 11, ground := Ground.phase }, { on := 12, ground := Ground.phase }], guard := none }) (v := _) rfl (by kernel_rfl) (by kernel_rfl) (by kernel_rfl) (fun _ _ _ h => h) (Or.inl ⟨by rfl, ?hy34⟩) (by assumption) ?rest34
                case hy34 => (intro w' ss; (try dsimp only at ss); go_simp; first | done | with_reducible rfl)
                try simp only [Act.put, List.setIfInBounds_toArray, List.set_cons_zero, List.set_cons_succ]
                refine wpAnyH_done (by kernel_rfl) ?_ _
                refine NoPanic.normal ?_
                go_wp2_with fail
                go_meet
                refine ⟨_, _, A3, q3, A4, q4, rfl, rfl, rfl, ?_, ?_, ?_, ⟨?_, ?_⟩, ⟨?_, ?_⟩⟩
                · repeat (first | (with_reducible assumption) | (with_reducible exact Since.refl _) | (with_reducible refine Since.alloc ?_ _) | (with_reducible refine Since.set ?_ ?_ _; rotate_left; first | (with_reducible exact Nat.le_refl _) | (with_reducible assumption) | (with_reducible exact hb10) | (with_reducible exact hby) | (dsimp only; omega)))
                · repeat (first | (with_reducible exact r3) | (with_reducible refine Row.since ?_ (since_alloc _ _)) | ((with_reducible refine Law03.row_put0 ?_ ?_); rotate_left; (focus (go_simp; done))) | ((with_reducible refine Law03.row_put1 ?_ ?_); rotate_left; (focus (go_simp; done))))
                · repeat (first | (with_reducible exact r4) | (with_reducible refine Row.since ?_ (since_alloc _ _)) | ((with_reducible refine Law03.row_put0 ?_ ?_); rotate_left; (focus (go_simp; done))) | ((with_reducible refine Law03.row_put1 ?_ ?_); rotate_left; (focus (go_simp; done))))
                · go_simp
                · go_simp
                · go_simp
                · go_simp
        · go_simp
          refine hK.out _ _ ?_ (since_alloc _ _) ?_
          · exact hSall.out _ ((hr0.trans (since_alloc _ _)))
          clear hK K
          try simp only [Act.put, List.setIfInBounds_toArray, List.set_cons_zero, List.set_cons_succ]
          have q10 : wq1.heap.size ≠ wq2.heap.size := Nat.ne_of_lt Z10.lt
          have q10' : wq2.heap.size ≠ wq1.heap.size := Ne.symm q10
          have Z10 := Z10.since (since_alloc wq2 (.cells #[.bool false, .slice none 0 0] 30))
          have Z9 := Law03.Zero.fresh wq2 30
          have hb9 := hr0.size
          have hr0 := hr0.trans (since_alloc wq2 (.cells #[.bool false, .slice none 0 0] 30))
          refine Reg.wpG_ready (rs := [4]) (by kernel_rfl) (by simp) (fun wq3 k3' sq3 => ?_)
          have hr0 := hr0.trans k3'
          have Z10 := Z10.since k3'
          have Z9 := Z9.since k3'
          refine Reg.AllG.last (o := { dst := some 98, op := Op.call { callee := Callee.value (Operand.func 16), args := #[Operand.tmp 95, Operand.tmp 97], argTypes := #[30, 30] }, type := 42, pos := "law.go:163", after := #[{ on := 1, ground := Ground.data }, { on := 3, ground := Ground.data }, { on := 3, ground := Ground.chain }], guard := none }) rfl (by rfl) (fun K hK => ?_) Reg.AllG.nil
          · go_simp
            (with_reducible refine (divq a0 a1 cap0 cap1 b0 b1 d0 d1 wq3 (R0.out.since (hS0.trans (hZ.trans hr0))) (R1.out.since (hS0.trans (hZ.trans hr0))) M0.out M1.out D1.out).mono ?_)
            rintro e y ⟨A3, q3, A4, q4, rfl, r3, r4, hx⟩
            have hr0 := hr0.trans hx
            have hby := hr0.size
            have Z10 := Z10.since hx
            have Z9 := Z9.since hx
            refine hK.out _ _ ?_ (fun hHeld => ?_)
            · exact hSall.out _ (hr0)
            clear hK K
            try simp only [Act.put, List.setIfInBounds_toArray, List.set_cons_zero, List.set_cons_succ]
            have u10 : wq1.heap.size ≠ y.heap.size := Nat.ne_of_lt Z10.lt
            have u9 : wq2.heap.size ≠ y.heap.size := Nat.ne_of_lt Z9.lt
            have u10' : y.heap.size ≠ wq1.heap.size := Ne.symm u10
            have u9' : y.heap.size ≠ wq2.heap.size := Ne.symm u9
            refine' wpAnyH_take (i := 5) (oi := { dst := some 93, op := Op.move (Operand.tmp 98), type := 42, pos := "law.go:163", after := #[{ on := 4, ground := Ground.data }], guard := none }) (v := _) rfl (by kernel_rfl) (by kernel_rfl) (by kernel_rfl) (fun _ _ _ h => h) (Or.inl ⟨by rfl, ?hy35⟩) (by assumption) ?rest35
            case hy35 => (intro w' ss; (try dsimp only at ss); go_simp; first | done | with_reducible rfl)
            try simp only [Act.put, List.setIfInBounds_toArray, List.set_cons_zero, List.set_cons_succ]
            refine' wpAnyH_take (i := 6) (oi := { dst := some 99, op := Op.extract (Operand.tmp 93) 0, type := 30, pos := "law.go:163", after := #[{ on := 5, ground := Ground.data }], guard := none }) (v := _) rfl (by kernel_rfl) (by kernel_rfl) (by kernel_rfl) (fun _ _ _ h => h) (Or.inl ⟨by rfl, ?hy36⟩) (by assumption) ?rest36
            case hy36 => (intro w' ss; (try dsimp only at ss); go_simp; first | done | with_reducible rfl)
            try simp only [Act.put, List.setIfInBounds_toArray, List.set_cons_zero, List.set_cons_succ]
            refine' wpAnyH_take (i := 7) (oi := { dst := some 100, op := Op.extract (Operand.tmp 93) 1, type := 30, pos := "law.go:163", after := #[{ on := 5, ground := Ground.data }, { on := 11, ground := Ground.gcOnly Departure.lateStores }], guard := none }) (v := _) rfl (by kernel_rfl) (by kernel_rfl) (by kernel_rfl) (fun _ _ _ h => h) (Or.inl ⟨by rfl, ?hy37⟩) (by assumption) ?rest37
            case hy37 => (intro w' ss; (try dsimp only at ss); go_simp; first | done | with_reducible rfl)
            try simp only [Act.put, List.setIfInBounds_toArray, List.set_cons_zero, List.set_cons_succ]
            refine' wpAnyH_take (i := 8) (oi := { dst := some 101, op := Op.extract (Operand.tmp 93) 2, type := 27, pos := "law.go:163", after := #[{ on := 5, ground := Ground.data }, { on := 12, ground := Ground.gcOnly Departure.lateStores }], guard := none }) (v := _) rfl (by kernel_rfl) (by kernel_rfl) (by kernel_rfl) (fun _ _ _ h => h) (Or.inl ⟨by rfl, ?hy38⟩) (by assumption) ?rest38
            case hy38 => (intro w' ss; (try dsimp only at ss); go_simp; first | done | with_reducible rfl)
            try simp only [Act.put, List.setIfInBounds_toArray, List.set_cons_zero, List.set_cons_succ]
            refine wpAnyH_ready (rs := [11]) (by kernel_rfl) (by simp) ?_
            refine AllReadyH.cons (o := { dst := none, op := Op.store 30 (Operand.tmp 15) (Operand.tmp 99), type := 0, pos := "law.go:163", after := #[{ on := 9, ground := Ground.data }, { on := 6, ground := Ground.data }, { on := 4, ground := Ground.chain }, { on := 0, ground := Ground.phase }, { on := 1, ground := Ground.phase }, { on := 2, ground := Ground.phase }, { on := 3, ground := Ground.phase }, { on := 4, ground := Ground.phase }, { on := 5, ground := Ground.phase }, { on := 6, ground := Ground.phase }, { on := 7, ground := Ground.textOnly Departure.lateStores }, { on := 8, ground := Ground.textOnly Departure.lateStores }, { on := 9, ground := Ground.phase }, { on := 10, ground := Ground.phase }], guard := none }) rfl (fun K hK => ?_) AllReadyH.nil
            · obtain ⟨z10a, z10b, z10c, z10d⟩ := Z10
              obtain ⟨z9a, z9b, z9c, z9d⟩ := Z9
              go_simp
              refine hK.out _ _ ?_ (fun hHeld => ?_)
              · refine hSall.out _ ?_; repeat (first | (with_reducible assumption) | (with_reducible exact Since.refl _) | (with_reducible refine Since.alloc ?_ _) | (with_reducible refine Since.set ?_ ?_ _; rotate_left; first | (with_reducible exact Nat.le_refl _) | (with_reducible assumption) | (with_reducible exact hb10) | (with_reducible exact hb9) | (with_reducible exact hby) | (dsimp only; omega)))
              clear hK K
              try simp only [Act.put, List.setIfInBounds_toArray, List.set_cons_zero, List.set_cons_succ]
              refine wpAnyH_ready (rs := [12]) (by kernel_rfl) (by simp) ?_
              refine AllReadyH.cons (o := { dst := none, op := Op.store 30 (Operand.tmp 16) (Operand.tmp 100), type := 0, pos := "law.go:163", after := #[{ on := 10, ground := Ground.data }, { on := 7, ground := Ground.data }, { on := 11, ground := Ground.chain }, { on := 0, ground := Ground.phase }, { on := 1, ground := Ground.phase }, { on := 2, ground := Ground.phase }, { on := 3, ground := Ground.phase }, { on := 4, ground := Ground.phase }, { on := 5, ground := Ground.phase }, { on := 6, ground := Ground.phase }, { on := 7, ground := Ground.phase }, { on := 8, ground := Ground.textOnly Departure.lateStores }, { on := 9, ground := Ground.phase }, { on := 10, ground := Ground.phase }, { on := 11, ground := Ground.phase }], guard := none }) rfl (fun K hK => ?_) AllReadyH.nil
              · go_simp
                refine hK.out _ _ ?_ (fun hHeld => ?_)
                · refine hSall.out _ ?_; repeat (first | (with_reducible assumption) | (with_reducible exact Since.refl _) | (with_reducible refine Since.alloc ?_ _) | (with_reducible refine Since.set ?_ ?_ _; rotate_left; first | (with_reducible exact Nat.le_refl _) | (with_reducible assumption) | (with_reducible exact hb10) | (with_reducible exact hb9) | (with_reducible exact hby) | (dsimp only; omega)))
                clear hK K
                try simp only [Act.put, List.setIfInBounds_toArray, List.set_cons_zero, List.set_cons_succ]
                refine' wpAnyH_take (i := 13) (oi := { dst := some 17, op := Op.assign (Operand.tmp 101), type := 27, pos := "law.go:163", after := #[{ on := 8, ground := Ground.data }, { on := 12, ground := Ground.chain }, { on := 0, ground := Ground.phase }, { on := 1, ground := Ground.phase }, { on := 2, ground := Ground.phase }, { on := 3, ground := Ground.phase }, { on := 4, ground := Ground.phase }, { on := 5, ground := Ground.phase }, { on := 6, ground := Ground.phase }, { on := 7, ground := Ground.phase }, { on := 8, ground := Ground.phase }, { on := 9, ground := Ground.phase }, { on := 10, ground := Ground.phase }, { on := 11, ground := Ground.phase }, { on := 12, ground := Ground.phase }], guard := none }) (v := _) rfl (by kernel_rfl) (by kernel_rfl) (by kernel_rfl) (fun _ _ _ h => h) (Or.inl ⟨by rfl, ?hy39⟩) (by assumption) ?rest39
                case hy39 => (intro w' ss; (try dsimp only at ss); go_simp; first | done | with_reducible rfl)
                try simp only [Act.put, List.setIfInBounds_toArray, List.set_cons_zero, List.set_cons_succ]
                refine wpAnyH_done (by kernel_rfl) ?_ _
                refine NoPanic.normal ?_
                go_wp2_with fail
                go_meet
                refine ⟨_, _, A3, q3, A4, q4, rfl, rfl, rfl, ?_, ?_, ?_, ⟨?_, ?_⟩, ⟨?_, ?_⟩⟩
                · repeat (first | (with_reducible assumption) | (with_reducible exact Since.refl _) | (with_reducible refine Since.alloc ?_ _) | (with_reducible refine Since.set ?_ ?_ _; rotate_left; first | (with_reducible exact Nat.le_refl _) | (with_reducible assumption) | (with_reducible exact hb10) | (with_reducible exact hb9) | (with_reducible exact hby) | (dsimp only; omega)))
                · repeat (first | (with_reducible exact r3) | (with_reducible refine Row.since ?_ (since_alloc _ _)) | ((with_reducible refine Law03.row_put0 ?_ ?_); rotate_left; (focus (go_simp; done))) | ((with_reducible refine Law03.row_put1 ?_ ?_); rotate_left; (focus (go_simp; done))))
                · repeat (first | (with_reducible exact r4) | (with_reducible refine Row.since ?_ (since_alloc _ _)) | ((with_reducible refine Law03.row_put0 ?_ ?_); rotate_left; (focus (go_simp; done))) | ((with_reducible refine Law03.row_put1 ?_ ?_); rotate_left; (focus (go_simp; done))))
                · go_simp
                · go_simp
                · go_simp
                · go_simp
    case rest =>
      obtain ⟨cq, cr, A3, q3, A4, q4, rfl, rfl, rfl, hc, r3, r4, ⟨g0, g1⟩, g2, g3⟩ := hcut
      have hZ := hZ.trans hc
      have Vq : Hid (∀ W', Since wc W' → W'.cell? ⟨cq, 0, none⟩ = some (.bool n3) ∧ W'.cell? ⟨cq, 1, none⟩ = some (.slice A3 s3.length q3)) := fun W' h => ⟨Law03.stays g0 h, Law03.stays g1 h⟩
      have Vr : Hid (∀ W', Since wc W' → W'.cell? ⟨cr, 0, none⟩ = some (.bool n4) ∧ W'.cell? ⟨cr, 1, none⟩ = some (.slice A4 s4.length q4)) := fun W' h => ⟨Law03.stays g2 h, Law03.stays g3 h⟩
      clear g0 g1 g2 g3 hc hS
      obtain ⟨⟨k0, k1, k2, k3⟩, _⟩ := hold.out _ hZ
      obtain ⟨e0, e0'⟩ := Vq.out _ (Since.refl wc)
      go_upto_region 19 with fail
      go_cut [18, 19] (fun p18 p19 W => ∃ (c0 : Nat) (A5 : Option Addr) (q5 : Nat), p18 = .pointer (some ⟨c0, 0, none⟩) ∧ p19 = .int .i64 0 ∧ Since wc W ∧ Row W (.slice A5 s5.length q5) s5 ∧ (W.cell? ⟨c0, 0, none⟩ = some (.bool n5) ∧ W.cell? ⟨c0, 1, none⟩ = some (.slice A5 s5.length q5)))
      case first =>
        have hSall : Hid (∀ W : World, Since wc W → (W.cell? ⟨w.heap.size, 0, none⟩ = some (.bool b0) ∧ W.cell? ⟨w.heap.size, 1, none⟩ = some (.slice a0 d0.length cap0) ∧ W.cell? ⟨w.heap.size + 1, 0, none⟩ = some (.bool b1) ∧ W.cell? ⟨w.heap.size + 1, 1, none⟩ = some (.slice a1 d1.length cap1)) ∧ (W.cell? ⟨cq, 0, none⟩ = some (.bool n3) ∧ W.cell? ⟨cq, 1, none⟩ = some (.slice A3 s3.length q3))) := fun W h => ⟨(hold.out _ (hZ.trans h)).1, Vq.out _ h⟩
        have hr0 : Since wc wc.drew := Since.drew (Since.refl _)
        refine wp_region_noPanic ?_
        refine Reg.wp_region_G (S := fun W => (W.cell? ⟨w.heap.size, 0, none⟩ = some (.bool b0) ∧ W.cell? ⟨w.heap.size, 1, none⟩ = some (.slice a0 d0.length cap0) ∧ W.cell? ⟨w.heap.size + 1, 0, none⟩ = some (.bool b1) ∧ W.cell? ⟨w.heap.size + 1, 1, none⟩ = some (.slice a1 d1.length cap1)) ∧ (W.cell? ⟨cq, 0, none⟩ = some (.bool n3) ∧ W.cell? ⟨cq, 1, none⟩ = some (.slice A3 s3.length q3))) (fun j => [3, 4, 5, 6, 8, 9].contains j) (by kernel_rfl) ?_ ?_
        · exact hSall.out _ (hr0)
        refine' Reg.wpG_take (i := 0) (oi := { dst := some 103, op := Op.load 30 (Operand.tmp 15), type := 30, pos := "law.go:164", after := #[], guard := none }) (v := _) [3, 4, 5, 6, 8, 9] [3, 4, 5, 6, 8, 9] rfl rfl (by kernel_rfl) (by kernel_rfl) (by kernel_rfl) (by kernel_rfl) (by kernel_rfl) (by kernel_rfl) (by kernel_rfl) (fun _ _ _ h => h) (Or.inl ⟨by rfl, Or.inl ?hy40⟩) ?rest40
        case hy40 => (intro w' kk ss; (try dsimp only at ss); go_simp; first | done | with_reducible rfl)
        try simp only [Act.put, List.setIfInBounds_toArray, List.set_cons_zero, List.set_cons_succ]
        refine' Reg.wpG_take (i := 1) (oi := { dst := some 104, op := Op.load 24 (Operand.tmp 4), type := 24, pos := "law.go:164", after := #[], guard := none }) (v := _) [2, 3, 4, 5, 6, 8, 9] [3, 4, 5, 6, 8, 9] rfl rfl (by kernel_rfl) (by kernel_rfl) (by kernel_rfl) (by kernel_rfl) (by kernel_rfl) (by kernel_rfl) (by kernel_rfl) (fun _ _ _ h => h) (Or.inl ⟨by rfl, Or.inl ?hy41⟩) ?rest41
        case hy41 => (intro w' kk ss; (try dsimp only at ss); go_simp; first | done | with_reducible rfl)
        try simp only [Act.put, List.setIfInBounds_toArray, List.set_cons_zero, List.set_cons_succ]
        refine Reg.wpG_take (i := 2) (oi := { dst := some 105, op := Op.call { callee := Callee.value (Operand.func 8), args := #[Operand.tmp 104], argTypes := #[24] }, type := 30, pos := "law.go:164", after := #[{ on := 1, ground := Ground.data }], guard := none }) (v := sv b1 (.slice a1 d1.length cap1)) [3, 4, 5, 6, 8, 9] [3, 4, 5, 6, 8, 9] rfl rfl (by kernel_rfl) (by kernel_rfl) (by kernel_rfl) (by kernel_rfl) (by kernel_rfl) (by kernel_rfl) (by kernel_rfl) (fun _ _ _ h => h) (Or.inl ⟨by rfl, Or.inr ⟨8, #[sv b1 (.slice a1 d1.length cap1)], fun w' kk ss => ⟨?_, ?_⟩⟩⟩) ?_
        · (try dsimp only at ss); go_simp
        · exact (Law03.theirs_any a1 d1.length cap1 b1 w').mono fun e w'' h => ⟨h.1, h.2, hSall.out _ ((hr0.trans (kk.trans h.2)))⟩
        try simp only [Act.put, List.setIfInBounds_toArray, List.set_cons_zero, List.set_cons_succ]
        refine Reg.wpG_ready (rs := [3, 7]) (by kernel_rfl) (by simp) (fun wq1 k1' sq1 => ?_)
        have hr0 := hr0.trans k1'
        refine Reg.AllG.last (o := { dst := some 106, op := Op.call { callee := Callee.value (Operand.func 17), args := #[Operand.tmp 103, Operand.tmp 105], argTypes := #[30, 30] }, type := 34, pos := "law.go:164", after := #[{ on := 0, ground := Ground.data }, { on := 2, ground := Ground.data }, { on := 2, ground := Ground.chain }], guard := none }) rfl (by rfl) (fun K hK => ?_) (Reg.AllG.first (o := { dst := some 18, op := Op.alloc 30, type := 0, pos := "law.go:164", after := #[], guard := none }) rfl (by rfl) (fun K hK => ?_) Reg.AllG.nil)
        · go_simp
          (with_reducible refine (mul_at A3 a1 q3 cap1 n3 b1 s3 d1 wq1 (r3.since hr0) (R1.out.since (hS0.trans (hZ.trans hr0))) (by have := DL.out; omega) M1.out D2.out).mono ?_)
          rintro e y ⟨A5, q5, rfl, r5, hx⟩
          have hr0 := hr0.trans hx
          have hby := hr0.size
          refine hK.out _ _ ?_ (fun hHeld => ?_)
          · exact hSall.out _ (hr0)
          clear hK K
          try simp only [Act.put, List.setIfInBounds_toArray, List.set_cons_zero, List.set_cons_succ]
          refine' wpAnyH_take (i := 4) (oi := { dst := some 102, op := Op.move (Operand.tmp 106), type := 34, pos := "law.go:164", after := #[{ on := 3, ground := Ground.data }], guard := none }) (v := _) rfl (by kernel_rfl) (by kernel_rfl) (by kernel_rfl) (fun _ _ _ h => h) (Or.inl ⟨by rfl, ?hy42⟩) (by assumption) ?rest42
          case hy42 => (intro w' ss; (try dsimp only at ss); go_simp; first | done | with_reducible rfl)
          try simp only [Act.put, List.setIfInBounds_toArray, List.set_cons_zero, List.set_cons_succ]
          refine' wpAnyH_take (i := 5) (oi := { dst := some 107, op := Op.extract (Operand.tmp 102) 0, type := 30, pos := "law.go:164", after := #[{ on := 4, ground := Ground.data }], guard := none }) (v := _) rfl (by kernel_rfl) (by kernel_rfl) (by kernel_rfl) (fun _ _ _ h => h) (Or.inl ⟨by rfl, ?hy43⟩) (by assumption) ?rest43
          case hy43 => (intro w' ss; (try dsimp only at ss); go_simp; first | done | with_reducible rfl)
          try simp only [Act.put, List.setIfInBounds_toArray, List.set_cons_zero, List.set_cons_succ]
          refine' wpAnyH_take (i := 6) (oi := { dst := some 108, op := Op.extract (Operand.tmp 102) 1, type := 27, pos := "law.go:164", after := #[{ on := 4, ground := Ground.data }, { on := 8, ground := Ground.gcOnly Departure.lateStores }], guard := none }) (v := _) rfl (by kernel_rfl) (by kernel_rfl) (by kernel_rfl) (fun _ _ _ h => h) (Or.inl ⟨by rfl, ?hy44⟩) (by assumption) ?rest44
          case hy44 => (intro w' ss; (try dsimp only at ss); go_simp; first | done | with_reducible rfl)
          try simp only [Act.put, List.setIfInBounds_toArray, List.set_cons_zero, List.set_cons_succ]
          refine wpAnyH_ready (rs := [7]) (by kernel_rfl) (by simp) ?_
          refine AllReadyH.cons (o := { dst := some 18, op := Op.alloc 30, type := 0, pos := "law.go:164", after := #[], guard := none }) rfl (fun K hK => ?_) AllReadyH.nil
          · go_simp
            refine hK.out _ _ ?_ (fun hHeld => ?_)
            · refine hSall.out _ ?_; repeat (first | (with_reducible assumption) | (with_reducible exact Since.refl _) | (with_reducible refine Since.alloc ?_ _) | (with_reducible refine Since.set ?_ ?_ _; rotate_left; first | (with_reducible exact Nat.le_refl _) | (with_reducible assumption) | (with_reducible exact hby) | (dsimp only; omega)))
            clear hK K
            try simp only [Act.put, List.setIfInBounds_toArray, List.set_cons_zero, List.set_cons_succ]
            refine wpAnyH_ready (rs := [8]) (by kernel_rfl) (by simp) ?_
            refine AllReadyH.cons (o := { dst := none, op := Op.store 30 (Operand.tmp 18) (Operand.tmp 107), type := 0, pos := "law.go:164", after := #[{ on := 7, ground := Ground.data }, { on := 5, ground := Ground.data }, { on := 3, ground := Ground.chain }, { on := 0, ground := Ground.phase }, { on := 1, ground := Ground.phase }, { on := 2, ground := Ground.phase }, { on := 3, ground := Ground.phase }, { on := 4, ground := Ground.phase }, { on := 5, ground := Ground.phase }, { on := 6, ground := Ground.textOnly Departure.lateStores }, { on := 7, ground := Ground.phase }], guard := none }) rfl (fun K hK => ?_) AllReadyH.nil
            · go_simp
              refine hK.out _ _ ?_ (fun hHeld => ?_)
              · refine hSall.out _ ?_; repeat (first | (with_reducible assumption) | (with_reducible exact Since.refl _) | (with_reducible refine Since.alloc ?_ _) | (with_reducible refine Since.set ?_ ?_ _; rotate_left; first | (with_reducible exact Nat.le_refl _) | (with_reducible assumption) | (with_reducible exact hby) | (dsimp only; omega)))
              clear hK K
              try simp only [Act.put, List.setIfInBounds_toArray, List.set_cons_zero, List.set_cons_succ]
              refine' wpAnyH_take (i := 9) (oi := { dst := some 19, op := Op.assign (Operand.tmp 108), type := 27, pos := "law.go:164", after := #[{ on := 6, ground := Ground.data }, { on := 8, ground := Ground.chain }, { on := 0, ground := Ground.phase }, { on := 1, ground := Ground.phase }, { on := 2, ground := Ground.phase }, { on := 3, ground := Ground.phase }, { on := 4, ground := Ground.phase }, { on := 5, ground := Ground.phase }, { on := 6, ground := Ground.phase }, { on := 7, ground := Ground.phase }, { on := 8, ground := Ground.phase }], guard := none }) (v := _) rfl (by kernel_rfl) (by kernel_rfl) (by kernel_rfl) (fun _ _ _ h => h) (Or.inl ⟨by rfl, ?hy45⟩) (by assumption) ?rest45
              case hy45 => (intro w' ss; (try dsimp only at ss); go_simp; first | done | with_reducible rfl)
              try simp only [Act.put, List.setIfInBounds_toArray, List.set_cons_zero, List.set_cons_succ]
              refine wpAnyH_done (by kernel_rfl) ?_ _
              refine NoPanic.normal ?_
              go_wp2_with fail
              go_meet
              refine ⟨_, A5, q5, rfl, rfl, ?_, ?_, ⟨?_, ?_⟩⟩
              · repeat (first | (with_reducible assumption) | (with_reducible exact Since.refl _) | (with_reducible refine Since.alloc ?_ _) | (with_reducible refine Since.set ?_ ?_ _; rotate_left; first | (with_reducible exact Nat.le_refl _) | (with_reducible assumption) | (with_reducible exact hby) | (dsimp only; omega)))
              · repeat (first | (with_reducible exact r5) | (with_reducible refine Row.since ?_ (since_alloc _ _)) | ((with_reducible refine Law03.row_put0 ?_ ?_); rotate_left; (focus (go_simp; done))) | ((with_reducible refine Law03.row_put1 ?_ ?_); rotate_left; (focus (go_simp; done))))
              · go_simp
              · go_simp
        · go_simp
          refine hK.out _ _ ?_ (since_alloc _ _) ?_
          · exact hSall.out _ ((hr0.trans (since_alloc _ _)))
          clear hK K
          try simp only [Act.put, List.setIfInBounds_toArray, List.set_cons_zero, List.set_cons_succ]
          have Z7 := Law03.Zero.fresh wq1 30
          have hb7 := hr0.size
          have hr0 := hr0.trans (since_alloc wq1 (.cells #[.bool false, .slice none 0 0] 30))
          refine Reg.wpG_ready (rs := [3]) (by kernel_rfl) (by simp) (fun wq2 k2' sq2 => ?_)
          have hr0 := hr0.trans k2'
          have Z7 := Z7.since k2'
          refine Reg.AllG.last (o := { dst := some 106, op := Op.call { callee := Callee.value (Operand.func 17), args := #[Operand.tmp 103, Operand.tmp 105], argTypes := #[30, 30] }, type := 34, pos := "law.go:164", after := #[{ on := 0, ground := Ground.data }, { on := 2, ground := Ground.data }, { on := 2, ground := Ground.chain }], guard := none }) rfl (by rfl) (fun K hK => ?_) Reg.AllG.nil
          · go_simp
            (with_reducible refine (mul_at A3 a1 q3 cap1 n3 b1 s3 d1 wq2 (r3.since hr0) (R1.out.since (hS0.trans (hZ.trans hr0))) (by have := DL.out; omega) M1.out D2.out).mono ?_)
            rintro e y ⟨A5, q5, rfl, r5, hx⟩
            have hr0 := hr0.trans hx
            have hby := hr0.size
            have Z7 := Z7.since hx
            refine hK.out _ _ ?_ (fun hHeld => ?_)
            · exact hSall.out _ (hr0)
            clear hK K
            try simp only [Act.put, List.setIfInBounds_toArray, List.set_cons_zero, List.set_cons_succ]
            have u7 : wq1.heap.size ≠ y.heap.size := Nat.ne_of_lt Z7.lt
            have u7' : y.heap.size ≠ wq1.heap.size := Ne.symm u7
            refine' wpAnyH_take (i := 4) (oi := { dst := some 102, op := Op.move (Operand.tmp 106), type := 34, pos := "law.go:164", after := #[{ on := 3, ground := Ground.data }], guard := none }) (v := _) rfl (by kernel_rfl) (by kernel_rfl) (by kernel_rfl) (fun _ _ _ h => h) (Or.inl ⟨by rfl, ?hy46⟩) (by assumption) ?rest46
            case hy46 => (intro w' ss; (try dsimp only at ss); go_simp; first | done | with_reducible rfl)
            try simp only [Act.put, List.setIfInBounds_toArray, List.set_cons_zero, List.set_cons_succ]
            refine' wpAnyH_take (i := 5) (oi := { dst := some 107, op := Op.extract (Operand.tmp 102) 0, type := 30, pos := "law.go:164", after := #[{ on := 4, ground := Ground.data }], guard := none }) (v := _) rfl (by kernel_rfl) (by kernel_rfl) (by kernel_rfl) (fun _ _ _ h => h) (Or.inl ⟨by rfl, ?hy47⟩) (by assumption) ?rest47
            case hy47 => (intro w' ss; (try dsimp only at ss); go_simp; first | done | with_reducible rfl)
            try simp only [Act.put, List.setIfInBounds_toArray, List.set_cons_zero, List.set_cons_succ]
            refine' wpAnyH_take (i := 6) (oi := { dst := some 108, op := Op.extract (Operand.tmp 102) 1, type := 27, pos := "law.go:164", after := #[{ on := 4, ground := Ground.data }, { on := 8, ground := Ground.gcOnly Departure.lateStores }], guard := none }) (v := _) rfl (by kernel_rfl) (by kernel_rfl) (by kernel_rfl) (fun _ _ _ h => h) (Or.inl ⟨by rfl, ?hy48⟩) (by assumption) ?rest48
            case hy48 => (intro w' ss; (try dsimp only at ss); go_simp; first | done | with_reducible rfl)
            try simp only [Act.put, List.setIfInBounds_toArray, List.set_cons_zero, List.set_cons_succ]
            refine wpAnyH_ready (rs := [8]) (by kernel_rfl) (by simp) ?_
            refine AllReadyH.cons (o := { dst := none, op := Op.store 30 (Operand.tmp 18) (Operand.tmp 107), type := 0, pos := "law.go:164", after := #[{ on := 7, ground := Ground.data }, { on := 5, ground := Ground.data }, { on := 3, ground := Ground.chain }, { on := 0, ground := Ground.phase }, { on := 1, ground := Ground.phase }, { on := 2, ground := Ground.phase }, { on := 3, ground := Ground.phase }, { on := 4, ground := Ground.phase }, { on := 5, ground := Ground.phase }, { on := 6, ground := Ground.textOnly Departure.lateStores }, { on := 7, ground := Ground.phase }], guard := none }) rfl (fun K hK => ?_) AllReadyH.nil
            · obtain ⟨z7a, z7b, z7c, z7d⟩ := Z7
              go_simp
              refine hK.out _ _ ?_ (fun hHeld => ?_)
              · refine hSall.out _ ?_; repeat (first | (with_reducible assumption) | (with_reducible exact Since.refl _) | (with_reducible refine Since.alloc ?_ _) | (with_reducible refine Since.set ?_ ?_ _; rotate_left; first | (with_reducible exact Nat.le_refl _) | (with_reducible assumption) | (with_reducible exact hb7) | (with_reducible exact hby) | (dsimp only; omega)))
              clear hK K
              try simp only [Act.put, List.setIfInBounds_toArray, List.set_cons_zero, List.set_cons_succ]
              refine' wpAnyH_take (i := 9) (oi := { dst := some 19, op := Op.assign (Operand.tmp 108), type := 27, pos := "law.go:164", after := #[{ on := 6, ground := Ground.data }, { on := 8, ground := Ground.chain }, { on := 0, ground := Ground.phase }, { on := 1, ground := Ground.phase }, { on := 2, ground := Ground.phase }, { on := 3, ground := Ground.phase }, { on := 4, ground := Ground.phase }, { on := 5, ground := Ground.phase }, { on := 6, ground := Ground.phase }, { on := 7, ground := Ground.phase }, { on := 8, ground := Ground.phase }], guard := none }) (v := _) rfl (by kernel_rfl) (by kernel_rfl) (by kernel_rfl) (fun _ _ _ h => h) (Or.inl ⟨by rfl, ?hy49⟩) (by assumption) ?rest49
              case hy49 => (intro w' ss; (try dsimp only at ss); go_simp; first | done | with_reducible rfl)
              try simp only [Act.put, List.setIfInBounds_toArray, List.set_cons_zero, List.set_cons_succ]
              refine wpAnyH_done (by kernel_rfl) ?_ _
              refine NoPanic.normal ?_
              go_wp2_with fail
              go_meet
              refine ⟨_, A5, q5, rfl, rfl, ?_, ?_, ⟨?_, ?_⟩⟩
              · repeat (first | (with_reducible assumption) | (with_reducible exact Since.refl _) | (with_reducible refine Since.alloc ?_ _) | (with_reducible refine Since.set ?_ ?_ _; rotate_left; first | (with_reducible exact Nat.le_refl _) | (with_reducible assumption) | (with_reducible exact hb7) | (with_reducible exact hby) | (dsimp only; omega)))
              · repeat (first | (with_reducible exact r5) | (with_reducible refine Row.since ?_ (since_alloc _ _)) | ((with_reducible refine Law03.row_put0 ?_ ?_); rotate_left; (focus (go_simp; done))) | ((with_reducible refine Law03.row_put1 ?_ ?_); rotate_left; (focus (go_simp; done))))
              · go_simp
              · go_simp
      case rest =>
        rename_i wb
        obtain ⟨cp, A5, q5, rfl, rfl, hc, r5, g0, g1⟩ := hcut
        have hS := hZ.trans hc
        have r4 := r4.since hc
        have Vr : Hid (∀ W', Since wc W' → _) := fun W' h => Vr.out W' (hc.trans h)
        have Vp : Hid (∀ W', Since wc W' → W'.cell? ⟨cp, 0, none⟩ = some (.bool n5) ∧ W'.cell? ⟨cp, 1, none⟩ = some (.slice A5 s5.length q5)) := fun W' h => ⟨Law03.stays g0 h, Law03.stays g1 h⟩
        clear g0 g1 hc hZ
        have hK := Since.refl wc
        obtain ⟨e0, e0'⟩ := Vp.out _ hK
        obtain ⟨e1, e1'⟩ := Vr.out _ hK
        go_upto_region 21 with (first
      | (go_at_call 18; (with_reducible refine (add_at A5 A4 q5 q4 n5 n4 s5 s4 _ (r5.since hK) (r4.since hK) (by have := DL.out; omega) (by have := DL.out; omega) D3.out).mono ?_); rintro e v8 ⟨A6, q6, rfl, r6, h⟩; have hK := hK.trans h))
        obtain ⟨W3, hW3⟩ : ∃ W3, W3 = v8.alloc (.cells #[.bool b0, .slice A6 d0.length q6] 30) := ⟨_, rfl⟩
        rw [← hW3]
        have V9 : Hid (∀ W', Since W3 W' → W'.cell? ⟨v8.heap.size, 0, none⟩ = some (.bool b0) ∧ W'.cell? ⟨v8.heap.size, 1, none⟩ = some (.slice A6 d0.length q6)) := fun W' h => by rw [hW3] at h; exact ⟨(keep2 h).1, (keep2 h).2.1⟩
        have hx : Since v8 W3 := by rw [hW3]; exact since_alloc _ _
        have hg := hK.trans hx
        have r4 := r4.since hg
        have r6 := r6.since hx
        have Vr : Hid (∀ W', Since W3 W' → _) := fun W' h => Vr.out W' (hg.trans h)
        have hS := hS.trans hg
        clear hW3 hx hg hK
        generalize v8.heap.size = bk9 at *
        have hK := Since.refl W3
        have hall : Hid (∀ W : World, Since W3 W → (W.cell? ⟨w.heap.size, 0, none⟩ = some (.bool b0) ∧ W.cell? ⟨w.heap.size, 1, none⟩ = some (.slice a0 d0.length cap0) ∧ W.cell? ⟨w.heap.size + 1, 0, none⟩ = some (.bool b1) ∧ W.cell? ⟨w.heap.size + 1, 1, none⟩ = some (.slice a1 d1.length cap1)) ∧ (W.cell? ⟨bk9, 0, none⟩ = some (.bool b0) ∧ W.cell? ⟨bk9, 1, none⟩ = some (.slice A6 d0.length q6)) ∧ (W.cell? ⟨cr, 0, none⟩ = some (.bool n4) ∧ W.cell? ⟨cr, 1, none⟩ = some (.slice A4 s4.length q4))) := fun W h => ⟨(hold.out _ (hS.trans h)).1, V9.out _ h, Vr.out _ h⟩
        by_cases hr : s4.length = 0
        · have hz1 : decide (0 < s4.length) = false := by rw [decide_eq_false_iff_not]; omega
          have hz2 : decide ((0 : Int) < (s4.length : Int)) = false := by rw [decide_eq_false_iff_not]; omega
          clear hr
          refine wp_region_noPanic ?_
          refine Reg.wp_region_G (S := fun W => (W.cell? ⟨w.heap.size, 0, none⟩ = some (.bool b0) ∧ W.cell? ⟨w.heap.size, 1, none⟩ = some (.slice a0 d0.length cap0) ∧ W.cell? ⟨w.heap.size + 1, 0, none⟩ = some (.bool b1) ∧ W.cell? ⟨w.heap.size + 1, 1, none⟩ = some (.slice a1 d1.length cap1)) ∧ (W.cell? ⟨bk9, 0, none⟩ = some (.bool b0) ∧ W.cell? ⟨bk9, 1, none⟩ = some (.slice A6 d0.length q6)) ∧ (W.cell? ⟨cr, 0, none⟩ = some (.bool n4) ∧ W.cell? ⟨cr, 1, none⟩ = some (.slice A4 s4.length q4))) (fun j => [].contains j) (by kernel_rfl) ?_ ?_
          · exact hall.out _ (Since.drew (Since.refl W3))
          refine' Reg.wpG_take (i := 0) (oi := { dst := some 115, op := Op.move (Operand.tmp 17), type := 27, pos := "law.go:166", after := #[], guard := none }) (v := _) [1, 2, 3, 4, 5, 6, 7, 8, 9, 10, 11, 12, 13, 14, 15, 16, 17, 18, 19, 20, 21, 22, 23, 24, 25, 26, 27, 28, 29] [] rfl rfl (by kernel_rfl) (by kernel_rfl) (by kernel_rfl) (by kernel_rfl) (by kernel_rfl) (by kernel_rfl) (by kernel_rfl) (fun _ _ _ h => h) (Or.inl ⟨by rfl, Or.inl ?hy50⟩) ?rest50
          case hy50 => (intro w' kk ss; (try dsimp only at ss); go_simp; first | done | with_reducible rfl)
          try simp only [Act.put, List.setIfInBounds_toArray, List.set_cons_zero, List.set_cons_succ]
          refine' Reg.wpG_take (i := 1) (oi := { dst := some 116, op := Op.binOp BinOp.neq 27 (Operand.tmp 115) (Operand.const (Value.int IntKind.i64 0)) 27, type := 4, pos := "law.go:166", after := #[{ on := 0, ground := Ground.data }], guard := none }) (v := _) [2, 3, 4, 5, 6, 7, 8, 9, 10, 11, 12, 13, 14, 15, 16, 17, 18, 19, 20, 21, 22, 23, 24, 25, 26, 27, 28, 29] [] rfl rfl (by kernel_rfl) (by kernel_rfl) (by kernel_rfl) (by kernel_rfl) (by kernel_rfl) (by kernel_rfl) (by kernel_rfl) (fun _ _ _ h => h) (Or.inl ⟨by rfl, Or.inl ?hy51⟩) ?rest51
          case hy51 => (intro w' kk ss; (try dsimp only at ss); go_simp; first | done | with_reducible rfl)
          try simp only [Act.put, List.setIfInBounds_toArray, List.set_cons_zero, List.set_cons_succ]
          refine' Reg.wpG_take (i := 2) (oi := { dst := some 117, op := Op.move (Operand.tmp 116), type := 4, pos := "law.go:166", after := #[{ on := 1, ground := Ground.data }], guard := none }) (v := _) [3, 4, 5, 6, 7, 8, 9, 10, 11, 12, 13, 14, 15, 16, 17, 18, 19, 20, 21, 22, 23, 24, 25, 26, 27, 28, 29] [] rfl rfl (by kernel_rfl) (by kernel_rfl) (by kernel_rfl) (by kernel_rfl) (by kernel_rfl) (by kernel_rfl) (by kernel_rfl) (fun _ _ _ h => h) (Or.inl ⟨by rfl, Or.inl ?hy52⟩) ?rest52
          case hy52 => (intro w' kk ss; (try dsimp only at ss); go_simp; first | done | with_reducible rfl)
          try simp only [Act.put, List.setIfInBounds_toArray, List.set_cons_zero, List.set_cons_succ]
          refine' Reg.wpG_take (i := 3) (oi := { dst := some 118, op := Op.move (Operand.tmp 19), type := 27, pos := "law.go:166", after := #[{ on := 2, ground := Ground.guard }], guard := some (2, false) }) (v := _) [4, 5, 6, 7, 8, 9, 10, 11, 12, 13, 14, 15, 16, 17, 18, 19, 20, 21, 22, 23, 24, 25, 26, 27, 28, 29] [] rfl rfl (by kernel_rfl) (by kernel_rfl) (by kernel_rfl) (by kernel_rfl) (by kernel_rfl) (by kernel_rfl) (by kernel_rfl) (fun _ _ _ h => h) (Or.inl ⟨by rfl, Or.inl ?hy53⟩) ?rest53
          case hy53 => (intro w' kk ss; (try dsimp only at ss); go_simp; first | done | with_reducible rfl)
          try simp only [Act.put, List.setIfInBounds_toArray, List.set_cons_zero, List.set_cons_succ]
          refine' Reg.wpG_take (i := 4) (oi := { dst := some 119, op := Op.binOp BinOp.neq 27 (Operand.tmp 118) (Operand.const (Value.int IntKind.i64 0)) 27, type := 4, pos := "law.go:166", after := #[{ on := 3, ground := Ground.data }, { on := 2, ground := Ground.guard }], guard := some (2, false) }) (v := _) [5, 6, 7, 8, 9, 10, 11, 12, 13, 14, 15, 16, 17, 18, 19, 20, 21, 22, 23, 24, 25, 26, 27, 28, 29] [] rfl rfl (by kernel_rfl) (by kernel_rfl) (by kernel_rfl) (by kernel_rfl) (by kernel_rfl) (by kernel_rfl) (by kernel_rfl) (fun _ _ _ h => h) (Or.inl ⟨by rfl, Or.inl ?hy54⟩) ?rest54
          case hy54 => (intro w' kk ss; (try dsimp only at ss); go_simp; first | done | with_reducible rfl)
          try simp only [Act.put, List.setIfInBounds_toArray, List.set_cons_zero, List.set_cons_succ]
          refine' Reg.wpG_take (i := 5) (oi := { dst := some 120, op := Op.pick (Operand.tmp 117) (Operand.const (Value.bool true)) (Operand.tmp 119), type := 4, pos := "law.go:166", after := #[{ on := 2, ground := Ground.data }, { on := 4, ground := Ground.data }], guard := none }) (v := _) [6, 7, 8, 9, 10, 11, 12, 13, 14, 15, 16, 17, 18, 19, 20, 21, 22, 23, 24, 25, 26, 27, 28, 29] [] rfl rfl (by kernel_rfl) (by kernel_rfl) (by kernel_rfl) (by kernel_rfl) (by kernel_rfl) (by kernel_rfl) (by kernel_rfl) (fun _ _ _ h => h) (Or.inl ⟨by rfl, Or.inl ?hy55⟩) ?rest55
          case hy55 => (intro w' kk ss; (try dsimp only at ss); go_simp; first | done | with_reducible rfl)
          try simp only [Act.put, List.setIfInBounds_toArray, List.set_cons_zero, List.set_cons_succ]
          refine' Reg.wpG_take (i := 6) (oi := { dst := some 121, op := Op.move (Operand.tmp 120), type := 4, pos := "law.go:166", after := #[{ on := 5, ground := Ground.data }, { on := 2, ground := Ground.chain }], guard := none }) (v := _) [7, 8, 9, 10, 11, 12, 13, 14, 15, 16, 17, 18, 19, 20, 21, 22, 23, 24, 25, 26, 27, 28, 29] [] rfl rfl (by kernel_rfl) (by kernel_rfl) (by kernel_rfl) (by kernel_rfl) (by kernel_rfl) (by kernel_rfl) (by kernel_rfl) (fun _ _ _ h => h) (Or.inl ⟨by rfl, Or.inl ?hy56⟩) ?rest56
          case hy56 => (intro w' kk ss; (try dsimp only at ss); go_simp; first | done | with_reducible rfl)
          try simp only [Act.put, List.setIfInBounds_toArray, List.set_cons_zero, List.set_cons_succ]
          refine' Reg.wpG_take (i := 7) (oi := { dst := some 122, op := Op.move (Operand.tmp 21), type := 27, pos := "law.go:166", after := #[{ on := 6, ground := Ground.guard }], guard := some (6, false) }) (v := _) [8, 9, 10, 11, 12, 13, 14, 15, 16, 17, 18, 19, 20, 21, 22, 23, 24, 25, 26, 27, 28, 29] [] rfl rfl (by kernel_rfl) (by kernel_rfl) (by kernel_rfl) (by kernel_rfl) (by kernel_rfl) (by kernel_rfl) (by kernel_rfl) (fun _ _ _ h => h) (Or.inl ⟨by rfl, Or.inl ?hy57⟩) ?rest57
          case hy57 => (intro w' kk ss; (try dsimp only at ss); go_simp; first | done | with_reducible rfl)
          try simp only [Act.put, List.setIfInBounds_toArray, List.set_cons_zero, List.set_cons_succ]
          refine' Reg.wpG_take (i := 8) (oi := { dst := some 123, op := Op.binOp BinOp.neq 27 (Operand.tmp 122) (Operand.const (Value.int IntKind.i64 0)) 27, type := 4, pos := "law.go:166", after := #[{ on := 7, ground := Ground.data }, { on := 6, ground := Ground.guard }], guard := some (6, false) }) (v := _) [9, 10, 11, 12, 13, 14, 15, 16, 17, 18, 19, 20, 21, 22, 23, 24, 25, 26, 27, 28, 29] [] rfl rfl (by kernel_rfl) (by kernel_rfl) (by kernel_rfl) (by kernel_rfl) (by kernel_rfl) (by kernel_rfl) (by kernel_rfl) (fun _ _ _ h => h) (Or.inl ⟨by rfl, Or.inl ?hy58⟩) ?rest58
          case hy58 => (intro w' kk ss; (try dsimp only at ss); go_simp; first | done | with_reducible rfl)
          try simp only [Act.put, List.setIfInBounds_toArray, List.set_cons_zero, List.set_cons_succ]
          refine' Reg.wpG_take (i := 9) (oi := { dst := some 124, op := Op.pick (Operand.tmp 121) (Operand.const (Value.bool true)) (Operand.tmp 123), type := 4, pos := "law.go:166", after := #[{ on := 6, ground := Ground.data }, { on := 8, ground := Ground.data }], guard := none }) (v := _) [10, 11, 12, 13, 14, 15, 16, 17, 18, 19, 20, 21, 22, 23, 24, 25, 26, 27, 28, 29] [] rfl rfl (by kernel_rfl) (by kernel_rfl) (by kernel_rfl) (by kernel_rfl) (by kernel_rfl) (by kernel_rfl) (by kernel_rfl) (fun _ _ _ h => h) (Or.inl ⟨by rfl, Or.inl ?hy59⟩) ?rest59
          case hy59 => (intro w' kk ss; (try dsimp only at ss); go_simp; first | done | with_reducible rfl)
          try simp only [Act.put, List.setIfInBounds_toArray, List.set_cons_zero, List.set_cons_succ]
          refine' Reg.wpG_take (i := 10) (oi := { dst := some 125, op := Op.move (Operand.tmp 124), type := 4, pos := "law.go:166", after := #[{ on := 9, ground := Ground.data }, { on := 6, ground := Ground.chain }], guard := none }) (v := _) [11, 12, 13, 14, 15, 16, 17, 18, 19, 20, 21, 22, 23, 24, 25, 26, 27, 28, 29] [] rfl rfl (by kernel_rfl) (by kernel_rfl) (by kernel_rfl) (by kernel_rfl) (by kernel_rfl) (by kernel_rfl) (by kernel_rfl) (fun _ _ _ h => h) (Or.inl ⟨by rfl, Or.inl ?hy60⟩) ?rest60
          case hy60 => (intro w' kk ss; (try dsimp only at ss); go_simp; first | done | with_reducible rfl)
          try simp only [Act.put, List.setIfInBounds_toArray, List.set_cons_zero, List.set_cons_succ]
          refine' Reg.wpG_take (i := 11) (oi := { dst := some 126, op := Op.load 30 (Operand.tmp 20), type := 30, pos := "law.go:166", after := #[{ on := 10, ground := Ground.guard }], guard := some (10, false) }) (v := _) [12, 14, 15, 16, 17, 18, 19, 20, 21, 22, 23, 24, 25, 26, 27, 28, 29] [] rfl rfl (by kernel_rfl) (by kernel_rfl) (by kernel_rfl) (by kernel_rfl) (by kernel_rfl) (by kernel_rfl) (by kernel_rfl) (fun _ _ _ h => h) (Or.inl ⟨by rfl, Or.inl ?hy61⟩) ?rest61
          case hy61 => (intro w' kk ss; (try dsimp only at ss); go_simp; first | done | with_reducible rfl)
          try simp only [Act.put, List.setIfInBounds_toArray, List.set_cons_zero, List.set_cons_succ]
          refine Reg.wpG_take (i := 12) (oi := { dst := some 127, op := Op.call { callee := Callee.value (Operand.func 13), args := #[Operand.tmp 126], argTypes := #[30] }, type := 24, pos := "law.go:166", after := #[{ on := 11, ground := Ground.data }, { on := 10, ground := Ground.chain }, { on := 10, ground := Ground.guard }], guard := some (10, false) }) (v := sv b0 (.slice A6 d0.length q6)) [14, 15, 16, 17, 18, 19, 20, 21, 22, 23, 24, 25, 26, 27, 28, 29] [] rfl rfl (by kernel_rfl) (by kernel_rfl) (by kernel_rfl) (by kernel_rfl) (by kernel_rfl) (by kernel_rfl) (by kernel_rfl) (fun _ _ _ h => h) (Or.inl ⟨by rfl, Or.inr ⟨13, #[sv b0 (.slice A6 d0.length q6)], fun w' kk ss => ⟨?_, ?_⟩⟩⟩) ?_
          · (try dsimp only at ss); go_simp
          · exact (Law03.ours_any A6 d0.length q6 b0 w').mono fun e w'' h => ⟨h.1, h.2, hall.out _ ((Since.drew (Since.refl W3)).trans (kk.trans h.2))⟩
          try simp only [Act.put, List.setIfInBounds_toArray, List.set_cons_zero, List.set_cons_succ]
          refine' Reg.wpG_take (i := 13) (oi := { dst := some 128, op := Op.load 24 (Operand.tmp 3), type := 24, pos := "law.go:166", after := #[{ on := 10, ground := Ground.guard }], guard := some (10, false) }) (v := _) [14, 15, 16, 17, 18, 19, 20, 21, 22, 23, 24, 25, 26, 27, 28, 29] [] rfl rfl (by kernel_rfl) (by kernel_rfl) (by kernel_rfl) (by kernel_rfl) (by kernel_rfl) (by kernel_rfl) (by kernel_rfl) (fun _ _ _ h => h) (Or.inl ⟨by rfl, Or.inl ?hy62⟩) ?rest62
          case hy62 => (intro w' kk ss; (try dsimp only at ss); go_simp; first | done | with_reducible rfl)
          try simp only [Act.put, List.setIfInBounds_toArray, List.set_cons_zero, List.set_cons_succ]
          refine Reg.wpG_take (i := 14) (oi := { dst := some 129, op := Op.call { callee := Callee.value (Operand.func 12), args := #[Operand.tmp 127, Operand.tmp 128], argTypes := #[24, 24] }, type := 4, pos := "law.go:166", after := #[{ on := 12, ground := Ground.data }, { on := 13, ground := Ground.data }, { on := 12, ground := Ground.chain }, { on := 10, ground := Ground.guard }], guard := some (10, false) }) (v := .bool true) [15, 16, 17, 18, 19, 20, 21, 22, 23, 24, 25, 26, 27, 28, 29] [] rfl rfl (by kernel_rfl) (by kernel_rfl) (by kernel_rfl) (by kernel_rfl) (by kernel_rfl) (by kernel_rfl) (by kernel_rfl) (fun _ _ _ h => h) (Or.inl ⟨by rfl, Or.inr ⟨12, #[sv b0 (.slice A6 d0.length q6), sv b0 (.slice a0 d0.length cap0)], fun w' kk ss => ⟨?_, ?_⟩⟩⟩) ?_
          · (try dsimp only at ss); go_simp
          · exact (Law03.same_self A6 a0 q6 cap0 b0 d0 w' (r6.since ((Since.drew (Since.refl W3)).trans kk)) (R0.out.since (hS0.trans (hS.trans ((Since.drew (Since.refl W3)).trans kk)))) (by have := M0.out; omega)).mono fun e w'' h => ⟨h.1, h.2, hall.out _ ((Since.drew (Since.refl W3)).trans (kk.trans h.2))⟩
          try simp only [Act.put, List.setIfInBounds_toArray, List.set_cons_zero, List.set_cons_succ]
          refine' Reg.wpG_take (i := 15) (oi := { dst := some 130, op := Op.unOp UnOp.not 4 (Operand.tmp 129), type := 4, pos := "law.go:166", after := #[{ on := 14, ground := Ground.data }, { on := 10, ground := Ground.guard }], guard := some (10, false) }) (v := _) [16, 17, 18, 19, 20, 21, 22, 23, 24, 25, 26, 27, 28, 29] [] rfl rfl (by kernel_rfl) (by kernel_rfl) (by kernel_rfl) (by kernel_rfl) (by kernel_rfl) (by kernel_rfl) (by kernel_rfl) (fun _ _ _ h => h) (Or.inl ⟨by rfl, Or.inl ?hy63⟩) ?rest63
          case hy63 => (intro w' kk ss; (try dsimp only at ss); go_simp; first | done | with_reducible rfl)
          try simp only [Act.put, List.setIfInBounds_toArray, List.set_cons_zero, List.set_cons_succ]
          refine' Reg.wpG_take (i := 16) (oi := { dst := some 131, op := Op.pick (Operand.tmp 125) (Operand.const (Value.bool true)) (Operand.tmp 130), type := 4, pos := "law.go:166", after := #[{ on := 10, ground := Ground.data }, { on := 15, ground := Ground.data }], guard := none }) (v := _) [17, 18, 19, 20, 21, 22, 23, 24, 25, 26, 27, 28, 29] [] rfl rfl (by kernel_rfl) (by kernel_rfl) (by kernel_rfl) (by kernel_rfl) (by kernel_rfl) (by kernel_rfl) (by kernel_rfl) (fun _ _ _ h => h) (Or.inl ⟨by rfl, Or.inl ?hy64⟩) ?rest64
          case hy64 => (intro w' kk ss; (try dsimp only at ss); go_simp; first | done | with_reducible rfl)
          try simp only [Act.put, List.setIfInBounds_toArray, List.set_cons_zero, List.set_cons_succ]
          refine' Reg.wpG_take (i := 17) (oi := { dst := some 132, op := Op.move (Operand.tmp 131), type := 4, pos := "law.go:166", after := #[{ on := 16, ground := Ground.data }, { on := 14, ground := Ground.chain }], guard := none }) (v := _) [18, 19, 20, 21, 22, 23, 24, 25, 26, 27, 28, 29] [] rfl rfl (by kernel_rfl) (by kernel_rfl) (by kernel_rfl) (by kernel_rfl) (by kernel_rfl) (by kernel_rfl) (by kernel_rfl) (fun _ _ _ h => h) (Or.inl ⟨by rfl, Or.inl ?hy65⟩) ?rest65
          case hy65 => (intro w' kk ss; (try dsimp only at ss); go_simp; first | done | with_reducible rfl)
          try simp only [Act.put, List.setIfInBounds_toArray, List.set_cons_zero, List.set_cons_succ]
          refine' Reg.wpG_take (i := 18) (oi := { dst := some 133, op := Op.fieldAddr 30 (Operand.tmp 16) 1, type := 0, pos := "law.go:166", after := #[{ on := 17, ground := Ground.guard }], guard := some (17, false) }) (v := _) [19, 20, 21, 22, 23, 24, 25, 26, 27, 28, 29] [] rfl rfl (by kernel_rfl) (by kernel_rfl) (by kernel_rfl) (by kernel_rfl) (by kernel_rfl) (by kernel_rfl) (by kernel_rfl) (fun _ _ _ h => h) (Or.inl ⟨by rfl, Or.inl ?hy66⟩) ?rest66
          case hy66 => (intro w' kk ss; (try dsimp only at ss); go_simp; first | done | with_reducible rfl)
          try simp only [Act.put, List.setIfInBounds_toArray, List.set_cons_zero, List.set_cons_succ]
          refine' Reg.wpG_take (i := 19) (oi := { dst := some 134, op := Op.load 22 (Operand.tmp 133), type := 22, pos := "law.go:166", after := #[{ on := 18, ground := Ground.data }, { on := 17, ground := Ground.guard }], guard := some (17, false) }) (v := _) [20, 21, 22, 23, 24, 25, 26, 27, 28, 29] [] rfl rfl (by kernel_rfl) (by kernel_rfl) (by kernel_rfl) (by kernel_rfl) (by kernel_rfl) (by kernel_rfl) (by kernel_rfl) (fun _ _ _ h => h) (Or.inl ⟨by rfl, Or.inl ?hy67⟩) ?rest67
          case hy67 => (intro w' kk ss; (try dsimp only at ss); go_simp; first | done | with_reducible rfl)
          try simp only [Act.put, List.setIfInBounds_toArray, List.set_cons_zero, List.set_cons_succ]
          refine' Reg.wpG_take (i := 20) (oi := { dst := some 135, op := Op.call { callee := Callee.builtin Builtin.len, args := #[Operand.tmp 134], argTypes := #[22] }, type := 3, pos := "law.go:166", after := #[{ on := 19, ground := Ground.data }, { on := 17, ground := Ground.guard }], guard := some (17, false) }) (v := _) [21, 22, 23, 24, 25, 26, 27, 28, 29] [] rfl rfl (by kernel_rfl) (by kernel_rfl) (by kernel_rfl) (by kernel_rfl) (by kernel_rfl) (by kernel_rfl) (by kernel_rfl) (fun _ _ _ h => h) (Or.inl ⟨by rfl, Or.inl ?hy68⟩) ?rest68
          case hy68 => (intro w' kk ss; (try dsimp only at ss); go_simp; first | done | with_reducible rfl)
          try simp only [Act.put, List.setIfInBounds_toArray, List.set_cons_zero, List.set_cons_succ]
          refine' Reg.wpG_take (i := 21) (oi := { dst := some 136, op := Op.binOp BinOp.gtr 3 (Operand.tmp 135) (Operand.const (Value.int IntKind.i64 0)) 3, type := 4, pos := "law.go:166", after := #[{ on := 20, ground := Ground.data }, { on := 17, ground := Ground.guard }], guard := some (17, false) }) (v := _) [22, 23, 24, 25, 26, 27, 28, 29] [] rfl rfl (by kernel_rfl) (by kernel_rfl) (by kernel_rfl) (by kernel_rfl) (by kernel_rfl) (by kernel_rfl) (by kernel_rfl) (fun _ _ _ h => h) (Or.inl ⟨by rfl, Or.inl ?hy69⟩) ?rest69
          case hy69 => (intro w' kk ss; (try dsimp only at ss); go_simp; first | done | with_reducible rfl)
          try simp only [Act.put, List.setIfInBounds_toArray, List.set_cons_zero, List.set_cons_succ]
          refine' Reg.wpG_take (i := 22) (oi := { dst := some 137, op := Op.move (Operand.tmp 136), type := 4, pos := "law.go:166", after := #[{ on := 21, ground := Ground.data }, { on := 17, ground := Ground.chain }, { on := 17, ground := Ground.guard }], guard := some (17, false) }) (v := _) [23, 24, 25, 26, 27, 28, 29] [] rfl rfl (by kernel_rfl) (by kernel_rfl) (by kernel_rfl) (by kernel_rfl) (by kernel_rfl) (by kernel_rfl) (by kernel_rfl) (fun _ _ _ h => h) (Or.inl ⟨by rfl, Or.inl ?hy70⟩) ?rest70
          case hy70 => (intro w' kk ss; (try dsimp only at ss); go_simp; first | done | with_reducible rfl)
          try simp only [Act.put, List.setIfInBounds_toArray, List.set_cons_zero, List.set_cons_succ]
          refine Reg.wpG_take (i := 23) (oi := { dst := some 138, op := Op.fieldAddr 30 (Operand.tmp 16) 0, type := 0, pos := "law.go:166", after := #[{ on := 22, ground := Ground.guard }], guard := some (22, true) }) (v := undef) [24, 27, 28, 29] [] rfl rfl (by kernel_rfl) (by kernel_rfl) (by kernel_rfl) (by kernel_rfl) (by kernel_rfl) (by kernel_rfl) (by kernel_rfl) (fun _ _ _ h => h) (Or.inr ⟨by rfl, rfl⟩) ?_
          try simp only [Act.put, List.setIfInBounds_toArray, List.set_cons_zero, List.set_cons_succ]
          refine Reg.wpG_take (i := 24) (oi := { dst := some 139, op := Op.load 4 (Operand.tmp 138), type := 4, pos := "law.go:166", after := #[{ on := 23, ground := Ground.data }, { on := 22, ground := Ground.guard }], guard := some (22, true) }) (v := undef) [27, 28, 29] [] rfl rfl (by kernel_rfl) (by kernel_rfl) (by kernel_rfl) (by kernel_rfl) (by kernel_rfl) (by kernel_rfl) (by kernel_rfl) (fun _ _ _ h => h) (Or.inr ⟨by rfl, rfl⟩) ?_
          try simp only [Act.put, List.setIfInBounds_toArray, List.set_cons_zero, List.set_cons_succ]
          refine Reg.wpG_take (i := 25) (oi := { dst := some 140, op := Op.fieldAddr 24 (Operand.tmp 4) 0, type := 0, pos := "law.go:166", after := #[{ on := 22, ground := Ground.guard }], guard := some (22, true) }) (v := undef) [26, 27, 28, 29] [] rfl rfl (by kernel_rfl) (by kernel_rfl) (by kernel_rfl) (by kernel_rfl) (by kernel_rfl) (by kernel_rfl) (by kernel_rfl) (fun _ _ _ h => h) (Or.inr ⟨by rfl, rfl⟩) ?_
          try simp only [Act.put, List.setIfInBounds_toArray, List.set_cons_zero, List.set_cons_succ]
          refine Reg.wpG_take (i := 26) (oi := { dst := some 141, op := Op.load 4 (Operand.tmp 140), type := 4, pos := "law.go:166", after := #[{ on := 25, ground := Ground.data }, { on := 22, ground := Ground.guard }], guard := some (22, true) }) (v := undef) [27, 28, 29] [] rfl rfl (by kernel_rfl) (by kernel_rfl) (by kernel_rfl) (by kernel_rfl) (by kernel_rfl) (by kernel_rfl) (by kernel_rfl) (fun _ _ _ h => h) (Or.inr ⟨by rfl, rfl⟩) ?_
          try simp only [Act.put, List.setIfInBounds_toArray, List.set_cons_zero, List.set_cons_succ]
          refine Reg.wpG_take (i := 27) (oi := { dst := some 142, op := Op.binOp BinOp.neq 4 (Operand.tmp 139) (Operand.tmp 141) 4, type := 4, pos := "law.go:166", after := #[{ on := 24, ground := Ground.data }, { on := 26, ground := Ground.data }, { on := 22, ground := Ground.guard }], guard := some (22, true) }) (v := undef) [28, 29] [] rfl rfl (by kernel_rfl) (by kernel_rfl) (by kernel_rfl) (by kernel_rfl) (by kernel_rfl) (by kernel_rfl) (by kernel_rfl) (fun _ _ _ h => h) (Or.inr ⟨by rfl, rfl⟩) ?_
          try simp only [Act.put, List.setIfInBounds_toArray, List.set_cons_zero, List.set_cons_succ]
          refine' Reg.wpG_take (i := 28) (oi := { dst := some 143, op := Op.pick (Operand.tmp 137) (Operand.tmp 142) (Operand.const (Value.bool false)), type := 4, pos := "law.go:166", after := #[{ on := 22, ground := Ground.data }, { on := 27, ground := Ground.data }, { on := 17, ground := Ground.guard }], guard := some (17, false) }) (v := _) [29] [] rfl rfl (by kernel_rfl) (by kernel_rfl) (by kernel_rfl) (by kernel_rfl) (by kernel_rfl) (by kernel_rfl) (by kernel_rfl) (fun _ _ _ h => h) (Or.inl ⟨by rfl, Or.inl ?hy71⟩) ?rest71
          case hy71 => (intro w' kk ss; (try dsimp only at ss); go_simp; first | done | with_reducible rfl)
          try simp only [Act.put, List.setIfInBounds_toArray, List.set_cons_zero, List.set_cons_succ]
          refine' Reg.wpG_take (i := 29) (oi := { dst := some 144, op := Op.pick (Operand.tmp 132) (Operand.const (Value.bool true)) (Operand.tmp 143), type := 4, pos := "law.go:166", after := #[{ on := 17, ground := Ground.data }, { on := 28, ground := Ground.data }], guard := none }) (v := _) [] [] rfl rfl (by kernel_rfl) (by kernel_rfl) (by kernel_rfl) (by kernel_rfl) (by kernel_rfl) (by kernel_rfl) (by kernel_rfl) (fun _ _ _ h => h) (Or.inl ⟨by rfl, Or.inl ?hy72⟩) ?rest72
          case hy72 => (intro w' kk ss; (try dsimp only at ss); go_simp; first | done | with_reducible rfl)
          try simp only [Act.put, List.setIfInBounds_toArray, List.set_cons_zero, List.set_cons_succ]
          refine Reg.wpG_done (by kernel_rfl) (fun we ke se => ?_) _
          refine NoPanic.normal ?_
          have hK := (Since.drew (Since.refl W3)).trans ke
          obtain ⟨⟨k0, k1, k2, k3⟩, ⟨e0, e0'⟩, e1, e1'⟩ := hall.out _ hK
          go_wp2_with (first
            | (go_at_call 19; (with_reducible refine (cmp_at A4 a1 q4 cap1 false false s4 d1 _ (r4.since hK) (R1.out.since (hS0.trans (hS.trans hK))) (by have := DL.out; omega) M1.out D4.out).mono ?_); rintro e v9 ⟨rfl, h⟩; have hK := hK.trans h))
          go_ret
          exact ⟨rfl, hS0.trans (hS.trans hK)⟩
        have hz1 : decide (0 < s4.length) = true := by rw [decide_eq_true_iff]; omega
        have hz2 : decide ((0 : Int) < (s4.length : Int)) = true := by rw [decide_eq_true_iff]; omega
        have hn : (!n4 == b1) = false := by rw [D5.out hr]; cases b1 <;> rfl
        refine wp_region_noPanic ?_
        refine Reg.wp_region_G (S := fun W => (W.cell? ⟨w.heap.size, 0, none⟩ = some (.bool b0) ∧ W.cell? ⟨w.heap.size, 1, none⟩ = some (.slice a0 d0.length cap0) ∧ W.cell? ⟨w.heap.size + 1, 0, none⟩ = some (.bool b1) ∧ W.cell? ⟨w.heap.size + 1, 1, none⟩ = some (.slice a1 d1.length cap1)) ∧ (W.cell? ⟨bk9, 0, none⟩ = some (.bool b0) ∧ W.cell? ⟨bk9, 1, none⟩ = some (.slice A6 d0.length q6)) ∧ (W.cell? ⟨cr, 0, none⟩ = some (.bool n4) ∧ W.cell? ⟨cr, 1, none⟩ = some (.slice A4 s4.length q4))) (fun j => [].contains j) (by kernel_rfl) ?_ ?_
        · exact hall.out _ (Since.drew (Since.refl W3))
        refine' Reg.wpG_take (i := 0) (oi := { dst := some 115, op := Op.move (Operand.tmp 17), type := 27, pos := "law.go:166", after := #[], guard := none }) (v := _) [1, 2, 3, 4, 5, 6, 7, 8, 9, 10, 11, 12, 13, 14, 15, 16, 17, 18, 19, 20, 21, 22, 23, 24, 25, 26, 27, 28, 29] [] rfl rfl (by kernel_rfl) (by kernel_rfl) (by kernel_rfl) (by kernel_rfl) (by kernel_rfl) (by kernel_rfl) (by kernel_rfl) (fun _ _ _ h => h) (Or.inl ⟨by rfl, Or.inl ?hy73⟩) ?rest73
        case hy73 => (intro w' kk ss; (try dsimp only at ss); go_simp; first | done | with_reducible rfl)
        try simp only [Act.put, List.setIfInBounds_toArray, List.set_cons_zero, List.set_cons_succ]
        refine' Reg.wpG_take (i := 1) (oi := { dst := some 116, op := Op.binOp BinOp.neq 27 (Operand.tmp 115) (Operand.const (Value.int IntKind.i64 0)) 27, type := 4, pos := "law.go:166", after := #[{ on := 0, ground := Ground.data }], guard := none }) (v := _) [2, 3, 4, 5, 6, 7, 8, 9, 10, 11, 12, 13, 14, 15, 16, 17, 18, 19, 20, 21, 22, 23, 24, 25, 26, 27, 28, 29] [] rfl rfl (by kernel_rfl) (by kernel_rfl) (by kernel_rfl) (by kernel_rfl) (by kernel_rfl) (by kernel_rfl) (by kernel_rfl) (fun _ _ _ h => h) (Or.inl ⟨by rfl, Or.inl ?hy74⟩) ?rest74
        case hy74 => (intro w' kk ss; (try dsimp only at ss); go_simp; first | done | with_reducible rfl)
        try simp only [Act.put, List.setIfInBounds_toArray, List.set_cons_zero, List.set_cons_succ]
        refine' Reg.wpG_take (i := 2) (oi := { dst := some 117, op := Op.move (Operand.tmp 116), type := 4, pos := "law.go:166", after := #[{ on := 1, ground := Ground.data }], guard := none }) (v := _) [3, 4, 5, 6, 7, 8, 9, 10, 11, 12, 13, 14, 15, 16, 17, 18, 19, 20, 21, 22, 23, 24, 25, 26, 27, 28, 29] [] rfl rfl (by kernel_rfl) (by kernel_rfl) (by kernel_rfl) (by kernel_rfl) (by kernel_rfl) (by kernel_rfl) (by kernel_rfl) (fun _ _ _ h => h) (Or.inl ⟨by rfl, Or.inl ?hy75⟩) ?rest75
        case hy75 => (intro w' kk ss; (try dsimp only at ss); go_simp; first | done | with_reducible rfl)
        try simp only [Act.put, List.setIfInBounds_toArray, List.set_cons_zero, List.set_cons_succ]
        refine' Reg.wpG_take (i := 3) (oi := { dst := some 118, op := Op.move (Operand.tmp 19), type := 27, pos := "law.go:166", after := #[{ on := 2, ground := Ground.guard }], guard := some (2, false) }) (v := _) [4, 5, 6, 7, 8, 9, 10, 11, 12, 13, 14, 15, 16, 17, 18, 19, 20, 21, 22, 23, 24, 25, 26, 27, 28, 29] [] rfl rfl (by kernel_rfl) (by kernel_rfl) (by kernel_rfl) (by kernel_rfl) (by kernel_rfl) (by kernel_rfl) (by kernel_rfl) (fun _ _ _ h => h) (Or.inl ⟨by rfl, Or.inl ?hy76⟩) ?rest76
        case hy76 => (intro w' kk ss; (try dsimp only at ss); go_simp; first | done | with_reducible rfl)
        try simp only [Act.put, List.setIfInBounds_toArray, List.set_cons_zero, List.set_cons_succ]
        refine' Reg.wpG_take (i := 4) (oi := { dst := some 119, op := Op.binOp BinOp.neq 27 (Operand.tmp 118) (Operand.const (Value.int IntKind.i64 0)) 27, type := 4, pos := "law.go:166", after := #[{ on := 3, ground := Ground.data }, { on := 2, ground := Ground.guard }], guard := some (2, false) }) (v := _) [5, 6, 7, 8, 9, 10, 11, 12, 13, 14, 15, 16, 17, 18, 19, 20, 21, 22, 23, 24, 25, 26, 27, 28, 29] [] rfl rfl (by kernel_rfl) (by kernel_rfl) (by kernel_rfl) (by kernel_rfl) (by kernel_rfl) (by kernel_rfl) (by kernel_rfl) (fun _ _ _ h => h) (Or.inl ⟨by rfl, Or.inl ?hy77⟩) ?rest77
        case hy77 => (intro w' kk ss; (try dsimp only at ss); go_simp; first | done | with_reducible rfl)
        try simp only [Act.put, List.setIfInBounds_toArray, List.set_cons_zero, List.set_cons_succ]
        refine' Reg.wpG_take (i := 5) (oi := { dst := some 120, op := Op.pick (Operand.tmp 117) (Operand.const (Value.bool true)) (Operand.tmp 119), type := 4, pos := "law.go:166", after := #[{ on := 2, ground := Ground.data }, { on := 4, ground := Ground.data }], guard := none }) (v := _) [6, 7, 8, 9, 10, 11, 12, 13, 14, 15, 16, 17, 18, 19, 20, 21, 22, 23, 24, 25, 26, 27, 28, 29] [] rfl rfl (by kernel_rfl) (by kernel_rfl) (by kernel_rfl) (by kernel_rfl) (by kernel_rfl) (by kernel_rfl) (by kernel_rfl) (fun _ _ _ h => h) (Or.inl ⟨by rfl, Or.inl ?hy78⟩) ?rest78
        case hy78 => (intro w' kk ss; (try dsimp only at ss); go_simp; first | done | with_reducible rfl)
        try simp only [Act.put, List.setIfInBounds_toArray, List.set_cons_zero, List.set_cons_succ]
        refine' Reg.wpG_take (i := 6) (oi := { dst := some 121, op := Op.move (Operand.tmp 120), type := 4, pos := "law.go:166", after := #[{ on := 5, ground := Ground.data }, { on := 2, ground := Ground.chain }], guard := none }) (v := _) [7, 8, 9, 10, 11, 12, 13, 14, 15, 16, 17, 18, 19, 20, 21, 22, 23, 24, 25, 26, 27, 28, 29] [] rfl rfl (by kernel_rfl) (by kernel_rfl) (by kernel_rfl) (by kernel_rfl) (by kernel_rfl) (by kernel_rfl) (by kernel_rfl) (fun _ _ _ h => h) (Or.inl ⟨by rfl, Or.inl ?hy79⟩) ?rest79
        case hy79 => (intro w' kk ss; (try dsimp only at ss); go_simp; first | done | with_reducible rfl)
        try simp only [Act.put, List.setIfInBounds_toArray, List.set_cons_zero, List.set_cons_succ]
        refine' Reg.wpG_take (i := 7) (oi := { dst := some 122, op := Op.move (Operand.tmp 21), type := 27, pos := "law.go:166", after := #[{ on := 6, ground := Ground.guard }], guard := some (6, false) }) (v := _) [8, 9, 10, 11, 12, 13, 14, 15, 16, 17, 18, 19, 20, 21, 22, 23, 24, 25, 26, 27, 28, 29] [] rfl rfl (by kernel_rfl) (by kernel_rfl) (by kernel_rfl) (by kernel_rfl) (by kernel_rfl) (by kernel_rfl) (by kernel_rfl) (fun _ _ _ h => h) (Or.inl ⟨by rfl, Or.inl ?hy80⟩) ?rest80
        case hy80 => (intro w' kk ss; (try dsimp only at ss); go_simp; first | done | with_reducible rfl)
        try simp only [Act.put, List.setIfInBounds_toArray, List.set_cons_zero, List.set_cons_succ]
        refine' Reg.wpG_take (i := 8) (oi := { dst := some 123, op := Op.binOp BinOp.neq 27 (Operand.tmp 122) (Operand.const (Value.int IntKind.i64 0)) 27, type := 4, pos := "law.go:166", after := #[{ on := 7, ground := Ground.data }, { on := 6, ground := Ground.guard }], guard := some (6, false) }) (v := _) [9, 10, 11, 12, 13, 14, 15, 16, 17, 18, 19, 20, 21, 22, 23, 24, 25, 26, 27, 28, 29] [] rfl rfl (by kernel_rfl) (by kernel_rfl) (by kernel_rfl) (by kernel_rfl) (by kernel_rfl) (by kernel_rfl) (by kernel_rfl) (fun _ _ _ h => h) (Or.inl ⟨by rfl, Or.inl ?hy81⟩) ?rest81
        case hy81 => (intro w' kk ss; (try dsimp only at ss); go_simp; first | done | with_reducible rfl)
        try simp only [Act.put, List.setIfInBounds_toArray, List.set_cons_zero, List.set_cons_succ]
        refine' Reg.wpG_take (i := 9) (oi := { dst := some 124, op := Op.pick (Operand.tmp 121) (Operand.const (Value.bool true)) (Operand.tmp 123), type := 4, pos := "law.go:166", after := #[{ on := 6, ground := Ground.data }, { on := 8, ground := Ground.data }], guard := none }) (v := _) [10, 11, 12, 13, 14, 15, 16, 17, 18, 19, 20, 21, 22, 23, 24, 25, 26, 27, 28, 29] [] rfl rfl (by kernel_rfl) (by kernel_rfl) (by kernel_rfl) (by kernel_rfl) (by kernel_rfl) (by kernel_rfl) (by kernel_rfl) (fun _ _ _ h => h) (Or.inl ⟨by rfl, Or.inl ?hy82⟩) ?rest82
        case hy82 => (intro w' kk ss; (try dsimp only at ss); go_simp; first | done | with_reducible rfl)
        try simp only [Act.put, List.setIfInBounds_toArray, List.set_cons_zero, List.set_cons_succ]
        refine' Reg.wpG_take (i := 10) (oi := { dst := some 125, op := Op.move (Operand.tmp 124), type := 4, pos := "law.go:166", after := #[{ on := 9, ground := Ground.data }, { on := 6, ground := Ground.chain }], guard := none }) (v := _) [11, 12, 13, 14, 15, 16, 17, 18, 19, 20, 21, 22, 23, 24, 25, 26, 27, 28, 29] [] rfl rfl (by kernel_rfl) (by kernel_rfl) (by kernel_rfl) (by kernel_rfl) (by kernel_rfl) (by kernel_rfl) (by kernel_rfl) (fun _ _ _ h => h) (Or.inl ⟨by rfl, Or.inl ?hy83⟩) ?rest83
        case hy83 => (intro w' kk ss; (try dsimp only at ss); go_simp; first | done | with_reducible rfl)
        try simp only [Act.put, List.setIfInBounds_toArray, List.set_cons_zero, List.set_cons_succ]
        refine' Reg.wpG_take (i := 11) (oi := { dst := some 126, op := Op.load 30 (Operand.tmp 20), type := 30, pos := "law.go:166", after := #[{ on := 10, ground := Ground.guard }], guard := some (10, false) }) (v := _) [12, 14, 15, 16, 17, 18, 19, 20, 21, 22, 23, 24, 25, 26, 27, 28, 29] [] rfl rfl (by kernel_rfl) (by kernel_rfl) (by kernel_rfl) (by kernel_rfl) (by kernel_rfl) (by kernel_rfl) (by kernel_rfl) (fun _ _ _ h => h) (Or.inl ⟨by rfl, Or.inl ?hy84⟩) ?rest84
        case hy84 => (intro w' kk ss; (try dsimp only at ss); go_simp; first | done | with_reducible rfl)
        try simp only [Act.put, List.setIfInBounds_toArray, List.set_cons_zero, List.set_cons_succ]
        refine Reg.wpG_take (i := 12) (oi := { dst := some 127, op := Op.call { callee := Callee.value (Operand.func 13), args := #[Operand.tmp 126], argTypes := #[30] }, type := 24, pos := "law.go:166", after := #[{ on := 11, ground := Ground.data }, { on := 10, ground := Ground.chain }, { on := 10, ground := Ground.guard }], guard := some (10, false) }) (v := sv b0 (.slice A6 d0.length q6)) [14, 15, 16, 17, 18, 19, 20, 21, 22, 23, 24, 25, 26, 27, 28, 29] [] rfl rfl (by kernel_rfl) (by kernel_rfl) (by kernel_rfl) (by kernel_rfl) (by kernel_rfl) (by kernel_rfl) (by kernel_rfl) (fun _ _ _ h => h) (Or.inl ⟨by rfl, Or.inr ⟨13, #[sv b0 (.slice A6 d0.length q6)], fun w' kk ss => ⟨?_, ?_⟩⟩⟩) ?_
        · (try dsimp only at ss); go_simp
        · exact (Law03.ours_any A6 d0.length q6 b0 w').mono fun e w'' h => ⟨h.1, h.2, hall.out _ ((Since.drew (Since.refl W3)).trans (kk.trans h.2))⟩
        try simp only [Act.put, List.setIfInBounds_toArray, List.set_cons_zero, List.set_cons_succ]
        refine' Reg.wpG_take (i := 13) (oi := { dst := some 128, op := Op.load 24 (Operand.tmp 3), type := 24, pos := "law.go:166", after := #[{ on := 10, ground := Ground.guard }], guard := some (10, false) }) (v := _) [14, 15, 16, 17, 18, 19, 20, 21, 22, 23, 24, 25, 26, 27, 28, 29] [] rfl rfl (by kernel_rfl) (by kernel_rfl) (by kernel_rfl) (by kernel_rfl) (by kernel_rfl) (by kernel_rfl) (by kernel_rfl) (fun _ _ _ h => h) (Or.inl ⟨by rfl, Or.inl ?hy85⟩) ?rest85
        case hy85 => (intro w' kk ss; (try dsimp only at ss); go_simp; first | done | with_reducible rfl)
        try simp only [Act.put, List.setIfInBounds_toArray, List.set_cons_zero, List.set_cons_succ]
        refine Reg.wpG_take (i := 14) (oi := { dst := some 129, op := Op.call { callee := Callee.value (Operand.func 12), args := #[Operand.tmp 127, Operand.tmp 128], argTypes := #[24, 24] }, type := 4, pos := "law.go:166", after := #[{ on := 12, ground := Ground.data }, { on := 13, ground := Ground.data }, { on := 12, ground := Ground.chain }, { on := 10, ground := Ground.guard }], guard := some (10, false) }) (v := .bool true) [15, 16, 17, 18, 19, 20, 21, 22, 23, 24, 25, 26, 27, 28, 29] [] rfl rfl (by kernel_rfl) (by kernel_rfl) (by kernel_rfl) (by kernel_rfl) (by kernel_rfl) (by kernel_rfl) (by kernel_rfl) (fun _ _ _ h => h) (Or.inl ⟨by rfl, Or.inr ⟨12, #[sv b0 (.slice A6 d0.length q6), sv b0 (.slice a0 d0.length cap0)], fun w' kk ss => ⟨?_, ?_⟩⟩⟩) ?_
        · (try dsimp only at ss); go_simp
        · exact (Law03.same_self A6 a0 q6 cap0 b0 d0 w' (r6.since ((Since.drew (Since.refl W3)).trans kk)) (R0.out.since (hS0.trans (hS.trans ((Since.drew (Since.refl W3)).trans kk)))) (by have := M0.out; omega)).mono fun e w'' h => ⟨h.1, h.2, hall.out _ ((Since.drew (Since.refl W3)).trans (kk.trans h.2))⟩
        try simp only [Act.put, List.setIfInBounds_toArray, List.set_cons_zero, List.set_cons_succ]
        refine' Reg.wpG_take (i := 15) (oi := { dst := some 130, op := Op.unOp UnOp.not 4 (Operand.tmp 129), type := 4, pos := "law.go:166", after := #[{ on := 14, ground := Ground.data }, { on := 10, ground := Ground.guard }], guard := some (10, false) }) (v := _) [16, 17, 18, 19, 20, 21, 22, 23, 24, 25, 26, 27, 28, 29] [] rfl rfl (by kernel_rfl) (by kernel_rfl) (by kernel_rfl) (by kernel_rfl) (by kernel_rfl) (by kernel_rfl) (by kernel_rfl) (fun _ _ _ h => h) (Or.inl ⟨by rfl, Or.inl ?hy86⟩) ?rest86
        case hy86 => (intro w' kk ss; (try dsimp only at ss); go_simp; first | done | with_reducible rfl)
        try simp only [Act.put, List.setIfInBounds_toArray, List.set_cons_zero, List.set_cons_succ]
        refine' Reg.wpG_take (i := 16) (oi := { dst := some 131, op := Op.pick (Operand.tmp 125) (Operand.const (Value.bool true)) (Operand.tmp 130), type := 4, pos := "law.go:166", after := #[{ on := 10, ground := Ground.data }, { on := 15, ground := Ground.data }], guard := none }) (v := _) [17, 18, 19, 20, 21, 22, 23, 24, 25, 26, 27, 28, 29] [] rfl rfl (by kernel_rfl) (by kernel_rfl) (by kernel_rfl) (by kernel_rfl) (by kernel_rfl) (by kernel_rfl) (by kernel_rfl) (fun _ _ _ h => h) (Or.inl ⟨by rfl, Or.inl ?hy87⟩) ?rest87
        case hy87 => (intro w' kk ss; (try dsimp only at ss); go_simp; first | done | with_reducible rfl)
        try simp only [Act.put, List.setIfInBounds_toArray, List.set_cons_zero, List.set_cons_succ]
        refine' Reg.wpG_take (i := 17) (oi := { dst := some 132, op := Op.move (Operand.tmp 131), type := 4, pos := "law.go:166", after := #[{ on := 16, ground := Ground.data }, { on := 14, ground := Ground.chain }], guard := none }) (v := _) [18, 19, 20, 21, 22, 23, 24, 25, 26, 27, 28, 29] [] rfl rfl (by kernel_rfl) (by kernel_rfl) (by kernel_rfl) (by kernel_rfl) (by kernel_rfl) (by kernel_rfl) (by kernel_rfl) (fun _ _ _ h => h) (Or.inl ⟨by rfl, Or.inl ?hy88⟩) ?rest88
        case hy88 => (intro w' kk ss; (try dsimp only at ss); go_simp; first | done | with_reducible rfl)
        try simp only [Act.put, List.setIfInBounds_toArray, List.set_cons_zero, List.set_cons_succ]
        refine' Reg.wpG_take (i := 18) (oi := { dst := some 133, op := Op.fieldAddr 30 (Operand.tmp 16) 1, type := 0, pos := "law.go:166", after := #[{ on := 17, ground := Ground.guard }], guard := some (17, false) }) (v := _) [19, 20, 21, 22, 23, 24, 25, 26, 27, 28, 29] [] rfl rfl (by kernel_rfl) (by kernel_rfl) (by kernel_rfl) (by kernel_rfl) (by kernel_rfl) (by kernel_rfl) (by kernel_rfl) (fun _ _ _ h => h) (Or.inl ⟨by rfl, Or.inl ?hy89⟩) ?rest89
        case hy89 => (intro w' kk ss; (try dsimp only at ss); go_simp; first | done | with_reducible rfl)
        try simp only [Act.put, List.setIfInBounds_toArray, List.set_cons_zero, List.set_cons_succ]
        refine' Reg.wpG_take (i := 19) (oi := { dst := some 134, op := Op.load 22 (Operand.tmp 133), type := 22, pos := "law.go:166", after := #[{ on := 18, ground := Ground.data }, { on := 17, ground := Ground.guard }], guard := some (17, false) }) (v := _) [20, 21, 22, 23, 24, 25, 26, 27, 28, 29] [] rfl rfl (by kernel_rfl) (by kernel_rfl) (by kernel_rfl) (by kernel_rfl) (by kernel_rfl) (by kernel_rfl) (by kernel_rfl) (fun _ _ _ h => h) (Or.inl ⟨by rfl, Or.inl ?hy90⟩) ?rest90
        case hy90 => (intro w' kk ss; (try dsimp only at ss); go_simp; first | done | with_reducible rfl)
        try simp only [Act.put, List.setIfInBounds_toArray, List.set_cons_zero, List.set_cons_succ]
        refine' Reg.wpG_take (i := 20) (oi := { dst := some 135, op := Op.call { callee := Callee.builtin Builtin.len, args := #[Operand.tmp 134], argTypes := #[22] }, type := 3, pos := "law.go:166", after := #[{ on := 19, ground := Ground.data }, { on := 17, ground := Ground.guard }], guard := some (17, false) }) (v := _) [21, 22, 23, 24, 25, 26, 27, 28, 29] [] rfl rfl (by kernel_rfl) (by kernel_rfl) (by kernel_rfl) (by kernel_rfl) (by kernel_rfl) (by kernel_rfl) (by kernel_rfl) (fun _ _ _ h => h) (Or.inl ⟨by rfl, Or.inl ?hy91⟩) ?rest91
        case hy91 => (intro w' kk ss; (try dsimp only at ss); go_simp; first | done | with_reducible rfl)
        try simp only [Act.put, List.setIfInBounds_toArray, List.set_cons_zero, List.set_cons_succ]
        refine' Reg.wpG_take (i := 21) (oi := { dst := some 136, op := Op.binOp BinOp.gtr 3 (Operand.tmp 135) (Operand.const (Value.int IntKind.i64 0)) 3, type := 4, pos := "law.go:166", after := #[{ on := 20, ground := Ground.data }, { on := 17, ground := Ground.guard }], guard := some (17, false) }) (v := _) [22, 23, 24, 25, 26, 27, 28, 29] [] rfl rfl (by kernel_rfl) (by kernel_rfl) (by kernel_rfl) (by kernel_rfl) (by kernel_rfl) (by kernel_rfl) (by kernel_rfl) (fun _ _ _ h => h) (Or.inl ⟨by rfl, Or.inl ?hy92⟩) ?rest92
        case hy92 => (intro w' kk ss; (try dsimp only at ss); go_simp; first | done | with_reducible rfl)
        try simp only [Act.put, List.setIfInBounds_toArray, List.set_cons_zero, List.set_cons_succ]
        refine' Reg.wpG_take (i := 22) (oi := { dst := some 137, op := Op.move (Operand.tmp 136), type := 4, pos := "law.go:166", after := #[{ on := 21, ground := Ground.data }, { on := 17, ground := Ground.chain }, { on := 17, ground := Ground.guard }], guard := some (17, false) }) (v := _) [23, 24, 25, 26, 27, 28, 29] [] rfl rfl (by kernel_rfl) (by kernel_rfl) (by kernel_rfl) (by kernel_rfl) (by kernel_rfl) (by kernel_rfl) (by kernel_rfl) (fun _ _ _ h => h) (Or.inl ⟨by rfl, Or.inl ?hy93⟩) ?rest93
        case hy93 => (intro w' kk ss; (try dsimp only at ss); go_simp; first | done | with_reducible rfl)
        try simp only [Act.put, List.setIfInBounds_toArray, List.set_cons_zero, List.set_cons_succ]
        refine' Reg.wpG_take (i := 23) (oi := { dst := some 138, op := Op.fieldAddr 30 (Operand.tmp 16) 0, type := 0, pos := "law.go:166", after := #[{ on := 22, ground := Ground.guard }], guard := some (22, true) }) (v := _) [24, 27, 28, 29] [] rfl rfl (by kernel_rfl) (by kernel_rfl) (by kernel_rfl) (by kernel_rfl) (by kernel_rfl) (by kernel_rfl) (by kernel_rfl) (fun _ _ _ h => h) (Or.inl ⟨by rfl, Or.inl ?hy94⟩) ?rest94
        case hy94 => (intro w' kk ss; (try dsimp only at ss); go_simp; first | done | with_reducible rfl)
        try simp only [Act.put, List.setIfInBounds_toArray, List.set_cons_zero, List.set_cons_succ]
        refine' Reg.wpG_take (i := 24) (oi := { dst := some 139, op := Op.load 4 (Operand.tmp 138), type := 4, pos := "law.go:166", after := #[{ on := 23, ground := Ground.data }, { on := 22, ground := Ground.guard }], guard := some (22, true) }) (v := _) [27, 28, 29] [] rfl rfl (by kernel_rfl) (by kernel_rfl) (by kernel_rfl) (by kernel_rfl) (by kernel_rfl) (by kernel_rfl) (by kernel_rfl) (fun _ _ _ h => h) (Or.inl ⟨by rfl, Or.inl ?hy95⟩) ?rest95
        case hy95 => (intro w' kk ss; (try dsimp only at ss); go_simp; first | done | with_reducible rfl)
        try simp only [Act.put, List.setIfInBounds_toArray, List.set_cons_zero, List.set_cons_succ]
        refine' Reg.wpG_take (i := 25) (oi := { dst := some 140, op := Op.fieldAddr 24 (Operand.tmp 4) 0, type := 0, pos := "law.go:166", after := #[{ on := 22, ground := Ground.guard }], guard := some (22, true) }) (v := _) [26, 27, 28, 29] [] rfl rfl (by kernel_rfl) (by kernel_rfl) (by kernel_rfl) (by kernel_rfl) (by kernel_rfl) (by kernel_rfl) (by kernel_rfl) (fun _ _ _ h => h) (Or.inl ⟨by rfl, Or.inl ?hy96⟩) ?rest96
        case hy96 => (intro w' kk ss; (try dsimp only at ss); go_simp; first | done | with_reducible rfl)
        try simp only [Act.put, List.setIfInBounds_toArray, List.set_cons_zero, List.set_cons_succ]
        refine' Reg.wpG_take (i := 26) (oi := { dst := some 141, op := Op.load 4 (Operand.tmp 140), type := 4, pos := "law.go:166", after := #[{ on := 25, ground := Ground.data }, { on := 22, ground := Ground.guard }], guard := some (22, true) }) (v := _) [27, 28, 29] [] rfl rfl (by kernel_rfl) (by kernel_rfl) (by kernel_rfl) (by kernel_rfl) (by kernel_rfl) (by kernel_rfl) (by kernel_rfl) (fun _ _ _ h => h) (Or.inl ⟨by rfl, Or.inl ?hy97⟩) ?rest97
        case hy97 => (intro w' kk ss; (try dsimp only at ss); go_simp; first | done | with_reducible rfl)
        try simp only [Act.put, List.setIfInBounds_toArray, List.set_cons_zero, List.set_cons_succ]
        refine' Reg.wpG_take (i := 27) (oi := { dst := some 142, op := Op.binOp BinOp.neq 4 (Operand.tmp 139) (Operand.tmp 141) 4, type := 4, pos := "law.go:166", after := #[{ on := 24, ground := Ground.data }, { on := 26, ground := Ground.data }, { on := 22, ground := Ground.guard }], guard := some (22, true) }) (v := _) [28, 29] [] rfl rfl (by kernel_rfl) (by kernel_rfl) (by kernel_rfl) (by kernel_rfl) (by kernel_rfl) (by kernel_rfl) (by kernel_rfl) (fun _ _ _ h => h) (Or.inl ⟨by rfl, Or.inl ?hy98⟩) ?rest98
        case hy98 => (intro w' kk ss; (try dsimp only at ss); go_simp; first | done | with_reducible rfl)
        try simp only [Act.put, List.setIfInBounds_toArray, List.set_cons_zero, List.set_cons_succ]
        refine' Reg.wpG_take (i := 28) (oi := { dst := some 143, op := Op.pick (Operand.tmp 137) (Operand.tmp 142) (Operand.const (Value.bool false)), type := 4, pos := "law.go:166", after := #[{ on := 22, ground := Ground.data }, { on := 27, ground := Ground.data }, { on := 17, ground := Ground.guard }], guard := some (17, false) }) (v := _) [29] [] rfl rfl (by kernel_rfl) (by kernel_rfl) (by kernel_rfl) (by kernel_rfl) (by kernel_rfl) (by kernel_rfl) (by kernel_rfl) (fun _ _ _ h => h) (Or.inl ⟨by rfl, Or.inl ?hy99⟩) ?rest99
        case hy99 => (intro w' kk ss; (try dsimp only at ss); go_simp; first | done | with_reducible rfl)
        try simp only [Act.put, List.setIfInBounds_toArray, List.set_cons_zero, List.set_cons_succ]
        refine' Reg.wpG_take (i := 29) (oi := { dst := some 144, op := Op.pick (Operand.tmp 132) (Operand.const (Value.bool true)) (Operand.tmp 143), type := 4, pos := "law.go:166", after := #[{ on := 17, ground := Ground.data }, { on := 28, ground := Ground.data }], guard := none }) (v := _) [] [] rfl rfl (by kernel_rfl) (by kernel_rfl) (by kernel_rfl) (by kernel_rfl) (by kernel_rfl) (by kernel_rfl) (by kernel_rfl) (fun _ _ _ h => h) (Or.inl ⟨by rfl, Or.inl ?hy100⟩) ?rest100
        case hy100 => (intro w' kk ss; (try dsimp only at ss); go_simp; first | done | with_reducible rfl)
        try simp only [Act.put, List.setIfInBounds_toArray, List.set_cons_zero, List.set_cons_succ]
        refine Reg.wpG_done (by kernel_rfl) (fun we ke se => ?_) _
        refine NoPanic.normal ?_
        have hK := (Since.drew (Since.refl W3)).trans ke
        obtain ⟨⟨k0, k1, k2, k3⟩, ⟨e0, e0'⟩, e1, e1'⟩ := hall.out _ hK
        go_wp2_with (first
          | (go_at_call 19; (with_reducible refine (cmp_at A4 a1 q4 cap1 false false s4 d1 _ (r4.since hK) (R1.out.since (hS0.trans (hS.trans hK))) (by have := DL.out; omega) M1.out D4.out).mono ?_); rintro e v9 ⟨rfl, h⟩; have hK := hK.trans h))
        go_ret
        exact ⟨rfl, hS0.trans (hS.trans hK)⟩

set_option maxRecDepth 100000 in
theorem lifted (os : Os) (started : os.Started) (H : Type) (enc : TypeId × Value → H) :
    ReturnsInHanded {} Tryd.checked os 4 .any (fun w args => (Rows.signedBackSpec.pre enc Tryd.prog Tryd.f4 Rows.signedBackRow.domain false w args ∧ laidMetH Tryd.prog Rows.signedBackRow.laid w) ∧ sizedMet enc Tryd.prog Tryd.f4 (OpenSpec.ofChange Rows.signedBackSpec) false w args) (Rows.signedBackSpec.post enc Tryd.prog Tryd.f4 false true false false) := by
  refine returnsInHanded_of_change_and (C := Tryd.checked) (X := fun w _ => laidMetH Tryd.prog Rows.signedBackRow.laid w) (fun _ _ _ hh h => h.of_heap hh) own started (by kernel_rfl) Tryd.func4
    (ChangeSpec.witness_shaped (enc := enc) (C := Tryd.checked) (os := os) (X := fun w _ => laidMetH Tryd.prog Rows.signedBackRow.laid w) false (World.laidAll Tryd.prog os Rows.signedBackRow.laid) #[.agg #[.bool false, .slice none 0 0], .agg #[.bool false, .slice none 0 0], .string ByteArray.empty] 8 (World.laidAll_os _ _ _)
      (World.shaped_of_ZipB (by kernel_rfl) (by kernel_rfl)) (by kernel_rfl) (by kernel_rfl) (by kernel_rfl)
      (by rw [MakeChecks.laidMetH_plain _ _ _ (by kernel_rfl)]; exact laidMet_laidAll _ (by kernel_rfl) (by kernel_rfl))) ?_
  intro W base args ds gs before hval0 hW hcnd _ _ _
  have hval : ∀ (j : Nat) t v, Tryd.f4.params[j]? = some t → args[j]? = some v → Value.okWide Tryd.prog W .any base t v := hval0
  have hW' := hW
  obtain ⟨p, q, hA0, hV, rfl, hfz, hnd⟩ := hW
  have hA : DataW.TrodAll enc Tryd.prog W 0 (fun _ => true) true Tryd.f4.params.toList args.toList ds p := hA0
  rw [Tryd.params4] at hA hval
  obtain ⟨v0, vs0, d0, ds0, p0, q0, hargs, rfl, rfl, h0, r0⟩ := trodAll_cons hA
  obtain ⟨v1, vs1, d1, ds1, p1, q1, rfl, rfl, rfl, h1, r1⟩ := trodAll_cons r0
  obtain ⟨v2, vs2, d2, ds2, p2, q2, rfl, rfl, rfl, h2, r2⟩ := trodAll_cons r1
  obtain ⟨rfl, rfl, rfl⟩ := trodAll_nil r2
  obtain rfl : args = #[v0, v1, v2] := by cases args; simp_all
  obtain ⟨rfl, rfl⟩ := trodVars_none hV
  have k0 := h0
  have lt0 : ∀ x ∈ p0, x.block < W.heap.size := by obtain ⟨m, hm⟩ := k0; exact DataW.trod_lt m _ _ _ hm
  obtain ⟨cb0, cm0, yb0, ym0, mm0, rfl, rfl, rfl, hb0, hm0⟩ := open_agg2 Tryd.underlying24 (by kernel_rfl) cells24 (hval 0 24 v0 rfl rfl) h0
  obtain ⟨b0, eb0, xb0⟩ := DataW.trod_bool Tryd.underlying4 hb0
  simp at eb0
  subst eb0
  obtain ⟨a0, len0, cap0, em0⟩ := slice_form Tryd.underlying22 hm0
  simp at em0
  subst em0
  obtain ⟨z0, w0⟩ : ∃ zs, IsRow .u32 W a0 len0 cap0 zs := by
    have hf := hm0
    rcases open_ints Tryd.underlying22 Tryd.underlying51 (by kernel_rfl) hf with ⟨hcs, _⟩ | ⟨x, l, c, zs, hcs, _, hl, hm, hz, _, hcell, hwz⟩
    · simp [Value.cells] at hcs
      obtain ⟨rfl, rfl, rfl⟩ := hcs
      exact ⟨[], .inl ⟨rfl, rfl, rfl, rfl⟩⟩
    · simp [Value.cells] at hcs
      obtain ⟨rfl, rfl, rfl⟩ := hcs
      exact ⟨zs, .inr ⟨_, rfl, hl, hm, by simpa using hz, hcell, hwz⟩⟩
  have k1 := h1
  have lt1 : ∀ x ∈ p1, x.block < W.heap.size := by obtain ⟨m, hm⟩ := k1; exact DataW.trod_lt m _ _ _ hm
  obtain ⟨cb1, cm1, yb1, ym1, mm1, rfl, rfl, rfl, hb1, hm1⟩ := open_agg2 Tryd.underlying24 (by kernel_rfl) cells24 (hval 1 24 v1 rfl rfl) h1
  obtain ⟨b1, eb1, xb1⟩ := DataW.trod_bool Tryd.underlying4 hb1
  simp at eb1
  subst eb1
  obtain ⟨a1, len1, cap1, em1⟩ := slice_form Tryd.underlying22 hm1
  simp at em1
  subst em1
  obtain ⟨z1, w1⟩ : ∃ zs, IsRow .u32 W a1 len1 cap1 zs := by
    have hf := hm1
    rcases open_ints Tryd.underlying22 Tryd.underlying51 (by kernel_rfl) hf with ⟨hcs, _⟩ | ⟨x, l, c, zs, hcs, _, hl, hm, hz, _, hcell, hwz⟩
    · simp [Value.cells] at hcs
      obtain ⟨rfl, rfl, rfl⟩ := hcs
      exact ⟨[], .inl ⟨rfl, rfl, rfl, rfl⟩⟩
    · simp [Value.cells] at hcs
      obtain ⟨rfl, rfl, rfl⟩ := hcs
      exact ⟨zs, .inr ⟨_, rfl, hl, hm, by simpa using hz, hcell, hwz⟩⟩
  obtain ⟨a2, rfl, rfl, rfl, w2⟩ := open_string Tryd.underlying9 (hval 2 9 v2 rfl rfl) h2
  clear hA0 hval0
  refine (walk b0 a0 len0 cap0 z0 b1 a1 len1 cap1 z1 a2 W w0 w1 w2).mono fun e W' ⟨he, bel⟩ => ?_
  subst he
  exact ⟨_, rfl, _, _, _, [], _, [], hW', trodAll_mk1 (shut_bool Tryd.underlying4 _), (trodAll_cons_mk (Below.trod laidOut (by kernel_rfl) (of_decide_eq_true (by kernel_rfl)) k0 bel lt0) (trodAll_cons_mk (Below.trod laidOut (by kernel_rfl) (of_decide_eq_true (by kernel_rfl)) k1 bel lt1) (trodAll_cons_mk (shut_string Tryd.underlying9 w2) trodAll_mk0))), rfl, bel.frame _, fun h => by cases h⟩

theorem over : Rows.signedBackRow.holds Tryd.pinned (OpenSpec.ofChange Rows.signedBackSpec) :=
  OpenClaim.holds_of_wide 4 Tryd.f4 rfl rfl rfl rfl rfl rfl rfl ⟨rfl, rfl, rfl, rfl, rfl⟩ rfl rfl rfl rfl rfl (by kernel_rfl) Tryd.func4 (by kernel_rfl)
    (of_decide_eq_true (by kernel_rfl)) (by unfold Func.isWrapper; first | (rw [if_pos (by decide +kernel)]; kernel_rfl) | (rw [if_neg (by decide +kernel)]; exact ⟨rfl, rfl⟩))
    (fun os started H enc _ => lifted os started H enc)

/-- THE STATEMENT: the tied card -/
theorem proved : Rows.SignedBackCardSaid :=
  Claim7.holds_tied_plain_at .later [] _ _ _ _ over (fun _ h => by cases h) (by kernel_rfl) (fun _ h => by cases h) signedBack_row_tie rfl ⟨rfl, rfl⟩ (by kernel_rfl) rfl
    (fun f fn hf hfn => by
      obtain rfl : f = 4 := Option.some.inj ((show Tryd.prog.funcNamed "touchstone/touchstonelaw03.SignedBack" = some 4 by kernel_rfl).symm.trans hf) |>.symm
      obtain rfl : fn = Tryd.f4 := (Option.some.inj (Tryd.func4.symm.trans hfn)).symm
      exact ⟨by kernel_rfl, fun j t ht => by
        rw [Tryd.params4] at ht
        have hm : t ∈ [24, 24, 9] := by simpa using Array.mem_of_getElem? ht
        have hall : ([24, 24, 9].all fun u => !Tryd.prog.wantsStandIn u) = true := by kernel_rfl
        exact (show Tryd.prog.wantsStandIn t = false by simpa using List.all_eq_true.1 hall t hm)⟩)
    (by kernel_rfl)
#print axioms proved
end Go.Proofs.YtmnankcllblgjaaDoor.signedBack
