/-
  For all fractions a, b and c of layer 4: the law RatioLaws returns true (where each may be, and has at most 8 digits: sums and products hang on no order, and on none in which three are taken; a product of a sum is the sum of the products; a quotient times the divisor is what was divided) and leaves them as they were. No condition.
-/
import Derived.Test.YtbbemgeinlehmaaGreatDoorRows
import Derived.Test.YtbbemgeinlehmaaGreatDoorCards
import Derived.Test.YtbbemgeinlehmaaGreatDoorTie
import Derived.LaidMore
import Derived.Lay
import Derived.SevenTiedAt
import Derived.WalkKit
import Derived.ProofKit
import Derived.OpenShut
import Derived.ShutString
import Derived.ChangeOld
import Derived.Below
import Derived.Lib.SmallJoins
import Derived.Test.YtbbemgeinlehmaaGreatDoorOpn
import Derived.Test.YtbbemgeinlehmaaGreatDoorL4a
import Derived.Test.YtbbemgeinlehmaaGreatDoorL4c
import Derived.Test.YtbbemgeinlehmaaGreatDoorAl4
import Derived.Test.YtbbemgeinlehmaaGreatDoorSr4di
import Derived.Test.YtbbemgeinlehmaaGreatDoorQa
import Derived.Test.YtbbemgeinlehmaaGreatDoorFw
import Derived.Test.YtbbemgeinlehmaaGreatDoorRg
import Derived.Deep.RegionHeld3
import Derived.Deep.DeepCutAuto
namespace Go.Proofs.YtbbemgeinlehmaaGreatDoor.ratioLaws
open Go.Joins Go.Proofs.YtbbemgeinlehmaaGreatDoor
open Go.ChangeShapes Go.WideShapes Go.ChangeAt Go.RowKit
open Go.ChangeMaps (open_string shut_string)
open Go.Proofs.YtbbemgeinlehmaaGreatDoor.Dig Go.Proofs.YtbbemgeinlehmaaGreatDoor.R4 Go.Proofs.YtbbemgeinlehmaaGreatDoor.Fr Go.Proofs.YtbbemgeinlehmaaGreatDoor.Ref04
open Go.Proofs.YtbbemgeinlehmaaGreatDoor.Ref03 (sv)
set_option linter.unusedVariables false
set_option linter.unusedSimpArgs false

theorem cells26 : Tryz.prog.cellsOf 26 = 4 := by kernel_rfl
theorem cells24 : Tryz.prog.cellsOf 24 = 2 := by kernel_rfl
theorem own : ownKnob Tryz.prog.godebug = none := by kernel_rfl
theorem laidOut : laidOutB Tryz.prog = true := by kernel_rfl

/-- WHAT THE WALK IS TOLD OF A SLICE OF INTEGERS THAT CAME IN: it is nil; or it leads to a row of 'cap' cells, the numbers 'zs' (the first 'len' are its elements, the rest its spare room), each fitting its kind. -/
def IsRow (k : IntKind) (w : World) (a : Option Addr) (len cap : Nat) (zs : List Int) : Prop :=
  (a = none ∧ len = 0 ∧ cap = 0 ∧ zs = []) ∨
  ∃ x, a = some x ∧ len ≤ cap ∧ cap ≤ maxLen ∧ zs.length = cap ∧ (∀ i, i < zs.length → w.cell? (x.add i) = some (.int k (zs.getD i 0))) ∧ ∀ n ∈ zs, (Lit.int k n).wf = true

theorem laws_nums {x y z : Fz} (dx : IsDig x.1.2) (dx' : IsDig x.2.2) (dy : IsDig y.1.2) (dy' : IsDig y.2.2) (dz : IsDig z.1.2) (dz' : IsDig z.2.2) (rx : rrB x = true) (ry : rrB y = true) (rz : rrB z = true)
    (lx : x.1.2.length ≤ 8) (lx' : x.2.2.length ≤ 8) (ly : y.1.2.length ≤ 8) (ly' : y.2.2.length ≤ 8) (lz : z.1.2.length ≤ 8) (lz' : z.2.2.length ≤ 8) : ∃ (n : Nat → Bool) (s : Nat → List Nat) (m : Nat → Bool) (t : Nat → List Nat), LawsF x y z (fun i => ((n i, s i), (m i, t i))) := by
  obtain ⟨G, h⟩ := laws_fracs dx dx' dy dy' dz dz' rx ry rz lx lx' ly ly' lz lz'
  exact ⟨fun i => (G i).1.1, fun i => (G i).1.2, fun i => (G i).2.1, fun i => (G i).2.2, h⟩

set_option maxRecDepth 100000 in
set_option maxHeartbeats 40000000 in
theorem walk (b0 : Bool) (a0 : Option Addr) (len0 cap0 : Nat) (sg0 : Bool) (ad0 : Option Addr) (ln0 cp0 : Nat) (z0 y0 : List Int) (b1 : Bool) (a1 : Option Addr) (len1 cap1 : Nat) (sg1 : Bool) (ad1 : Option Addr) (ln1 cp1 : Nat) (z1 y1 : List Int) (b2 : Bool) (a2 : Option Addr) (len2 cap2 : Nat) (sg2 : Bool) (ad2 : Option Addr) (ln2 cp2 : Nat) (z2 y2 : List Int) (w : World) (w0 : IsRow .u32 w a0 len0 cap0 z0) (u0 : IsRow .u32 w ad0 ln0 cp0 y0) (w1 : IsRow .u32 w a1 len1 cap1 z1) (u1 : IsRow .u32 w ad1 ln1 cp1 y1) (w2 : IsRow .u32 w a2 len2 cap2 z2) (u2 : IsRow .u32 w ad2 ln2 cp2 y2) :
    Calls Tryz.prog 6 #[.agg #[.bool b0, .slice a0 len0 cap0, .bool sg0, .slice ad0 ln0 cp0], .agg #[.bool b1, .slice a1 len1 cap1, .bool sg1, .slice ad1 ln1 cp1], .agg #[.bool b2, .slice a2 len2 cap2, .bool sg2, .slice ad2 ln2 cp2]] w fun e w' => e = .returned (.bool true) ∧ Since w w' := by
  obtain ⟨p0, hl0, hr0⟩ := row_in w0
  have P0 := Lib.hid hr0
  obtain ⟨q0, hm0, hs0⟩ := row_in u0
  have Q0 := Lib.hid hs0
  obtain ⟨p1, hl1, hr1⟩ := row_in w1
  have P1 := Lib.hid hr1
  obtain ⟨q1, hm1, hs1⟩ := row_in u1
  have Q1 := Lib.hid hs1
  obtain ⟨p2, hl2, hr2⟩ := row_in w2
  have P2 := Lib.hid hr2
  obtain ⟨q2, hm2, hs2⟩ := row_in u2
  have Q2 := Lib.hid hs2
  clear w0 u0 hr0 hs0 w1 u1 hr1 hs1 w2 u2 hr2 hs2
  subst hl0 hm0 hl1 hm1 hl2 hm2
  obtain ⟨W0, hW0⟩ : ∃ W0, W0 = ((w.alloc (.cells #[.bool b0, .slice a0 p0.length cap0, .bool sg0, .slice ad0 q0.length cp0] 26)).alloc (.cells #[.bool b1, .slice a1 p1.length cap1, .bool sg1, .slice ad1 q1.length cp1] 26)).alloc (.cells #[.bool b2, .slice a2 p2.length cap2, .bool sg2, .slice ad2 q2.length cp2] 26) := ⟨_, rfl⟩
  have HW := Lib.hid hW0
  have hS0 : Since w W0 := by rw [hW0]; exact (((Since.refl w).alloc _).alloc _).alloc _
  have hbx : Hid (∀ W : World, Since W0 W → Bx W (w.heap.size) #[.bool b0, .slice a0 p0.length cap0, .bool sg0, .slice ad0 q0.length cp0] 26 ∧ Bx W (w.heap.size + 1) #[.bool b1, .slice a1 p1.length cap1, .bool sg1, .slice ad1 q1.length cp1] 26 ∧ Bx W (w.heap.size + 1 + 1) #[.bool b2, .slice a2 p2.length cap2, .bool sg2, .slice ad2 q2.length cp2] 26) := fun W h => ⟨Bx.new ((since_alloc _ _).trans ((since_alloc _ _).trans (hW0 ▸ h))) (by simp), Bx.new ((since_alloc _ _).trans (hW0 ▸ h)) (by simp), Bx.new (hW0 ▸ h) (by simp)⟩
  clear hW0
  have hK := Since.refl W0
  by_cases g : (Law04.few1 ⟨b0, a0, cap0, p0, sg0, ad0, cp0, q0⟩ && (Law04.few1 ⟨b1, a1, cap1, p1, sg1, ad1, cp1, q1⟩ && (Law04.few1 ⟨b2, a2, cap2, p2, sg2, ad2, cp2, q2⟩))) = true
  rotate_left
  · have HF := Lib.hid (show (Law04.few1 ⟨b0, a0, cap0, p0, sg0, ad0, cp0, q0⟩ && (Law04.few1 ⟨b1, a1, cap1, p1, sg1, ad1, cp1, q1⟩ && (Law04.few1 ⟨b2, a2, cap2, p2, sg2, ad2, cp2, q2⟩))) = false by simpa using g)
    clear g
    go_enter Tryz.func6, Tryz.ntmps6
    go_wp2_with fail
    rw [← HW.out]
    obtain ⟨B0, B1, B2⟩ := hbx.out _ hK; obtain ⟨k0a, k0b, k0c, k0d⟩ := B0.four; obtain ⟨k1a, k1b, k1c, k1d⟩ := B1.four; obtain ⟨k2a, k2b, k2c, k2d⟩ := B2.four
    go_wp2_with (first
      | (go_at_call 9; (with_reducible refine (Alive04.alive _).mono ?_); rintro e v0 ⟨rfl, h⟩; have hK := hK.trans h; obtain ⟨B0, B1, B2⟩ := hbx.out _ hK; obtain ⟨k0a, k0b, k0c, k0d⟩ := B0.four; obtain ⟨k1a, k1b, k1c, k1d⟩ := B1.four; obtain ⟨k2a, k2b, k2c, k2d⟩ := B2.four)
      | (go_at_call 10; (with_reducible refine (Law04.few_three _ _ ⟨b0, a0, cap0, p0, sg0, ad0, cp0, q0⟩ ⟨b1, a1, cap1, p1, sg1, ad1, cp1, q1⟩ ⟨b2, a2, cap2, p2, sg2, ad2, cp2, q2⟩).mono ?_); rw [HF.out]; rintro e vf ⟨rfl, h⟩; have hK := hK.trans h; obtain ⟨B0, B1, B2⟩ := hbx.out _ hK; obtain ⟨k0a, k0b, k0c, k0d⟩ := B0.four; obtain ⟨k1a, k1b, k1c, k1d⟩ := B1.four; obtain ⟨k2a, k2b, k2c, k2d⟩ := B2.four))
    go_ret
    exact ⟨rfl, hS0.trans hK⟩
  have HF := Lib.hid g
  have FW := Lib.hid (show p0.length ≤ 8 ∧ q0.length ≤ 8 ∧ p1.length ≤ 8 ∧ q1.length ≤ 8 ∧ p2.length ≤ 8 ∧ q2.length ≤ 8 by simpa [Law04.few1, and_assoc] using g)
  clear g
  by_cases g0 : rrB ((b0, p0), (sg0, q0)) = true
  rotate_left
  · have G0 := Lib.hid (show rrB ((b0, p0), (sg0, q0)) = false by simpa using g0)
    clear g0
    go_enter Tryz.func6, Tryz.ntmps6
    go_wp2_with fail
    rw [← HW.out]
    obtain ⟨B0, B1, B2⟩ := hbx.out _ hK; obtain ⟨k0a, k0b, k0c, k0d⟩ := B0.four; obtain ⟨k1a, k1b, k1c, k1d⟩ := B1.four; obtain ⟨k2a, k2b, k2c, k2d⟩ := B2.four
    go_wp2_with (first
      | (go_at_call 9; (with_reducible refine (Alive04.alive _).mono ?_); rintro e v0 ⟨rfl, h⟩; have hK := hK.trans h; obtain ⟨B0, B1, B2⟩ := hbx.out _ hK; obtain ⟨k0a, k0b, k0c, k0d⟩ := B0.four; obtain ⟨k1a, k1b, k1c, k1d⟩ := B1.four; obtain ⟨k2a, k2b, k2c, k2d⟩ := B2.four)
      | (go_at_call 10; (with_reducible refine (Law04.few_three _ _ ⟨b0, a0, cap0, p0, sg0, ad0, cp0, q0⟩ ⟨b1, a1, cap1, p1, sg1, ad1, cp1, q1⟩ ⟨b2, a2, cap2, p2, sg2, ad2, cp2, q2⟩).mono ?_); rw [HF.out]; rintro e vf ⟨rfl, h⟩; have hK := hK.trans h; obtain ⟨B0, B1, B2⟩ := hbx.out _ hK; obtain ⟨k0a, k0b, k0c, k0d⟩ := B0.four; obtain ⟨k1a, k1b, k1c, k1d⟩ := B1.four; obtain ⟨k2a, k2b, k2c, k2d⟩ := B2.four)
      | (go_at_call 31; (with_reducible refine ((Ref04.right_any a0 ad0 cap0 cp0 b0 sg0 p0 q0 _ (P0.out.since (hS0.trans hK)) (Q0.out.since (hS0.trans hK)) (by have := FW.out; omega) (by have := FW.out; omega))).mono ?_); rw [G0.out]; rintro e w1 ⟨rfl, h⟩; have hK := hK.trans h; obtain ⟨B0, B1, B2⟩ := hbx.out _ hK; obtain ⟨k0a, k0b, k0c, k0d⟩ := B0.four; obtain ⟨k1a, k1b, k1c, k1d⟩ := B1.four; obtain ⟨k2a, k2b, k2c, k2d⟩ := B2.four))
    go_ret
    exact ⟨rfl, hS0.trans hK⟩
  have G0 := Lib.hid g0
  by_cases g1 : rrB ((b1, p1), (sg1, q1)) = true
  rotate_left
  · have G1 := Lib.hid (show rrB ((b1, p1), (sg1, q1)) = false by simpa using g1)
    clear g0 g1
    go_enter Tryz.func6, Tryz.ntmps6
    go_wp2_with fail
    rw [← HW.out]
    obtain ⟨B0, B1, B2⟩ := hbx.out _ hK; obtain ⟨k0a, k0b, k0c, k0d⟩ := B0.four; obtain ⟨k1a, k1b, k1c, k1d⟩ := B1.four; obtain ⟨k2a, k2b, k2c, k2d⟩ := B2.four
    go_wp2_with (first
      | (go_at_call 9; (with_reducible refine (Alive04.alive _).mono ?_); rintro e v0 ⟨rfl, h⟩; have hK := hK.trans h; obtain ⟨B0, B1, B2⟩ := hbx.out _ hK; obtain ⟨k0a, k0b, k0c, k0d⟩ := B0.four; obtain ⟨k1a, k1b, k1c, k1d⟩ := B1.four; obtain ⟨k2a, k2b, k2c, k2d⟩ := B2.four)
      | (go_at_call 10; (with_reducible refine (Law04.few_three _ _ ⟨b0, a0, cap0, p0, sg0, ad0, cp0, q0⟩ ⟨b1, a1, cap1, p1, sg1, ad1, cp1, q1⟩ ⟨b2, a2, cap2, p2, sg2, ad2, cp2, q2⟩).mono ?_); rw [HF.out]; rintro e vf ⟨rfl, h⟩; have hK := hK.trans h; obtain ⟨B0, B1, B2⟩ := hbx.out _ hK; obtain ⟨k0a, k0b, k0c, k0d⟩ := B0.four; obtain ⟨k1a, k1b, k1c, k1d⟩ := B1.four; obtain ⟨k2a, k2b, k2c, k2d⟩ := B2.four)
      | (go_at_call 31; (with_reducible refine ((Ref04.right_any a0 ad0 cap0 cp0 b0 sg0 p0 q0 _ (P0.out.since (hS0.trans hK)) (Q0.out.since (hS0.trans hK)) (by have := FW.out; omega) (by have := FW.out; omega))).mono ?_); rw [G0.out]; rintro e w1 ⟨rfl, h⟩; have hK := hK.trans h; obtain ⟨B0, B1, B2⟩ := hbx.out _ hK; obtain ⟨k0a, k0b, k0c, k0d⟩ := B0.four; obtain ⟨k1a, k1b, k1c, k1d⟩ := B1.four; obtain ⟨k2a, k2b, k2c, k2d⟩ := B2.four)
      | (go_at_call 31; (with_reducible refine ((Ref04.right_any a1 ad1 cap1 cp1 b1 sg1 p1 q1 _ (P1.out.since (hS0.trans hK)) (Q1.out.since (hS0.trans hK)) (by have := FW.out; omega) (by have := FW.out; omega))).mono ?_); rw [G1.out]; rintro e w2 ⟨rfl, h⟩; have hK := hK.trans h; obtain ⟨B0, B1, B2⟩ := hbx.out _ hK; obtain ⟨k0a, k0b, k0c, k0d⟩ := B0.four; obtain ⟨k1a, k1b, k1c, k1d⟩ := B1.four; obtain ⟨k2a, k2b, k2c, k2d⟩ := B2.four))
    go_ret
    exact ⟨rfl, hS0.trans hK⟩
  have G1 := Lib.hid g1
  by_cases g2 : rrB ((b2, p2), (sg2, q2)) = true
  rotate_left
  · have G2 := Lib.hid (show rrB ((b2, p2), (sg2, q2)) = false by simpa using g2)
    clear g0 g1 g2
    go_enter Tryz.func6, Tryz.ntmps6
    go_wp2_with fail
    rw [← HW.out]
    obtain ⟨B0, B1, B2⟩ := hbx.out _ hK; obtain ⟨k0a, k0b, k0c, k0d⟩ := B0.four; obtain ⟨k1a, k1b, k1c, k1d⟩ := B1.four; obtain ⟨k2a, k2b, k2c, k2d⟩ := B2.four
    go_wp2_with (first
      | (go_at_call 9; (with_reducible refine (Alive04.alive _).mono ?_); rintro e v0 ⟨rfl, h⟩; have hK := hK.trans h; obtain ⟨B0, B1, B2⟩ := hbx.out _ hK; obtain ⟨k0a, k0b, k0c, k0d⟩ := B0.four; obtain ⟨k1a, k1b, k1c, k1d⟩ := B1.four; obtain ⟨k2a, k2b, k2c, k2d⟩ := B2.four)
      | (go_at_call 10; (with_reducible refine (Law04.few_three _ _ ⟨b0, a0, cap0, p0, sg0, ad0, cp0, q0⟩ ⟨b1, a1, cap1, p1, sg1, ad1, cp1, q1⟩ ⟨b2, a2, cap2, p2, sg2, ad2, cp2, q2⟩).mono ?_); rw [HF.out]; rintro e vf ⟨rfl, h⟩; have hK := hK.trans h; obtain ⟨B0, B1, B2⟩ := hbx.out _ hK; obtain ⟨k0a, k0b, k0c, k0d⟩ := B0.four; obtain ⟨k1a, k1b, k1c, k1d⟩ := B1.four; obtain ⟨k2a, k2b, k2c, k2d⟩ := B2.four)
      | (go_at_call 31; (with_reducible refine ((Ref04.right_any a0 ad0 cap0 cp0 b0 sg0 p0 q0 _ (P0.out.since (hS0.trans hK)) (Q0.out.since (hS0.trans hK)) (by have := FW.out; omega) (by have := FW.out; omega))).mono ?_); rw [G0.out]; rintro e w1 ⟨rfl, h⟩; have hK := hK.trans h; obtain ⟨B0, B1, B2⟩ := hbx.out _ hK; obtain ⟨k0a, k0b, k0c, k0d⟩ := B0.four; obtain ⟨k1a, k1b, k1c, k1d⟩ := B1.four; obtain ⟨k2a, k2b, k2c, k2d⟩ := B2.four)
      | (go_at_call 31; (with_reducible refine ((Ref04.right_any a1 ad1 cap1 cp1 b1 sg1 p1 q1 _ (P1.out.since (hS0.trans hK)) (Q1.out.since (hS0.trans hK)) (by have := FW.out; omega) (by have := FW.out; omega))).mono ?_); rw [G1.out]; rintro e w2 ⟨rfl, h⟩; have hK := hK.trans h; obtain ⟨B0, B1, B2⟩ := hbx.out _ hK; obtain ⟨k0a, k0b, k0c, k0d⟩ := B0.four; obtain ⟨k1a, k1b, k1c, k1d⟩ := B1.four; obtain ⟨k2a, k2b, k2c, k2d⟩ := B2.four)
      | (go_at_call 31; (with_reducible refine ((Ref04.right_any a2 ad2 cap2 cp2 b2 sg2 p2 q2 _ (P2.out.since (hS0.trans hK)) (Q2.out.since (hS0.trans hK)) (by have := FW.out; omega) (by have := FW.out; omega))).mono ?_); rw [G2.out]; rintro e w3 ⟨rfl, h⟩; have hK := hK.trans h; obtain ⟨B0, B1, B2⟩ := hbx.out _ hK; obtain ⟨k0a, k0b, k0c, k0d⟩ := B0.four; obtain ⟨k1a, k1b, k1c, k1d⟩ := B1.four; obtain ⟨k2a, k2b, k2c, k2d⟩ := B2.four))
    go_ret
    exact ⟨rfl, hS0.trans hK⟩
  have G2 := Lib.hid g2
  clear g0 g1 g2
  obtain ⟨nf, sf, mf, tf, ⟨EA1, EA2, EM1, EM2⟩, ⟨EA3, EA4, EA5, EM5, EM6, EM7⟩, ⟨EM8, EM9, EA9⟩, ED0, ED1, RG⟩ := laws_nums P0.out.dig Q0.out.dig P1.out.dig Q1.out.dig P2.out.dig Q2.out.dig G0.out G1.out G2.out (by have := FW.out; dsimp only; omega) (by have := FW.out; dsimp only; omega) (by have := FW.out; dsimp only; omega) (by have := FW.out; dsimp only; omega) (by have := FW.out; dsimp only; omega) (by have := FW.out; dsimp only; omega)
  have EA1 := Lib.hid (show addR ((b0, p0), (sg0, q0)) ((b1, p1), (sg1, q1)) = (((nf 1, sf 1), (mf 1, tf 1)), 0) from EA1)
  have EA2 := Lib.hid (show addR ((b1, p1), (sg1, q1)) ((b0, p0), (sg0, q0)) = (((nf 1, sf 1), (mf 1, tf 1)), 0) from EA2)
  have EM1 := Lib.hid (show mulR ((b0, p0), (sg0, q0)) ((b1, p1), (sg1, q1)) = (((nf 2, sf 2), (mf 2, tf 2)), 0) from EM1)
  have EM2 := Lib.hid (show mulR ((b1, p1), (sg1, q1)) ((b0, p0), (sg0, q0)) = (((nf 2, sf 2), (mf 2, tf 2)), 0) from EM2)
  have EA3 := Lib.hid (show addR ((nf 1, sf 1), (mf 1, tf 1)) ((b2, p2), (sg2, q2)) = (((nf 3, sf 3), (mf 3, tf 3)), 0) from EA3)
  have EA4 := Lib.hid (show addR ((b1, p1), (sg1, q1)) ((b2, p2), (sg2, q2)) = (((nf 4, sf 4), (mf 4, tf 4)), 0) from EA4)
  have EA5 := Lib.hid (show addR ((b0, p0), (sg0, q0)) ((nf 4, sf 4), (mf 4, tf 4)) = (((nf 3, sf 3), (mf 3, tf 3)), 0) from EA5)
  have EM5 := Lib.hid (show mulR ((nf 2, sf 2), (mf 2, tf 2)) ((b2, p2), (sg2, q2)) = (((nf 5, sf 5), (mf 5, tf 5)), 0) from EM5)
  have EM6 := Lib.hid (show mulR ((b1, p1), (sg1, q1)) ((b2, p2), (sg2, q2)) = (((nf 6, sf 6), (mf 6, tf 6)), 0) from EM6)
  have EM7 := Lib.hid (show mulR ((b0, p0), (sg0, q0)) ((nf 6, sf 6), (mf 6, tf 6)) = (((nf 5, sf 5), (mf 5, tf 5)), 0) from EM7)
  have EM8 := Lib.hid (show mulR ((nf 1, sf 1), (mf 1, tf 1)) ((b2, p2), (sg2, q2)) = (((nf 7, sf 7), (mf 7, tf 7)), 0) from EM8)
  have EM9 := Lib.hid (show mulR ((b0, p0), (sg0, q0)) ((b2, p2), (sg2, q2)) = (((nf 8, sf 8), (mf 8, tf 8)), 0) from EM9)
  have EA9 := Lib.hid (show addR ((nf 8, sf 8), (mf 8, tf 8)) ((nf 6, sf 6), (mf 6, tf 6)) = (((nf 7, sf 7), (mf 7, tf 7)), 0) from EA9)
  have RG := Lib.hid RG
  have LEN : Hid (∀ i, (sf i).length ≤ 64 ∧ (tf i).length ≤ 64) := Lib.hid (fun i => ⟨(well_parts (rr_parts (RG.out i)).1).2.2.1, (well_parts (rr_parts (RG.out i)).1).2.2.2.1⟩)
  have ED0 := Lib.hid ED0
  have ED1 := Lib.hid ED1
  go_enter Tryz.func6, Tryz.ntmps6
  go_wp2_with fail
  rw [← HW.out]
  obtain ⟨B0, B1, B2⟩ := hbx.out _ hK; obtain ⟨k0a, k0b, k0c, k0d⟩ := B0.four; obtain ⟨k1a, k1b, k1c, k1d⟩ := B1.four; obtain ⟨k2a, k2b, k2c, k2d⟩ := B2.four
  go_upto_region 5 with (first
    | (go_at_call 9; (with_reducible refine (Alive04.alive _).mono ?_); rintro e v0 ⟨rfl, h⟩; have hK := hK.trans h; obtain ⟨B0, B1, B2⟩ := hbx.out _ hK; obtain ⟨k0a, k0b, k0c, k0d⟩ := B0.four; obtain ⟨k1a, k1b, k1c, k1d⟩ := B1.four; obtain ⟨k2a, k2b, k2c, k2d⟩ := B2.four)
    | (go_at_call 10; (with_reducible refine (Law04.few_three _ _ ⟨b0, a0, cap0, p0, sg0, ad0, cp0, q0⟩ ⟨b1, a1, cap1, p1, sg1, ad1, cp1, q1⟩ ⟨b2, a2, cap2, p2, sg2, ad2, cp2, q2⟩).mono ?_); rw [HF.out]; rintro e vf ⟨rfl, h⟩; have hK := hK.trans h; obtain ⟨B0, B1, B2⟩ := hbx.out _ hK; obtain ⟨k0a, k0b, k0c, k0d⟩ := B0.four; obtain ⟨k1a, k1b, k1c, k1d⟩ := B1.four; obtain ⟨k2a, k2b, k2c, k2d⟩ := B2.four)
    | (go_at_call 31; (with_reducible refine ((Ref04.right_any a0 ad0 cap0 cp0 b0 sg0 p0 q0 _ (P0.out.since (hS0.trans hK)) (Q0.out.since (hS0.trans hK)) (by have := FW.out; omega) (by have := FW.out; omega))).mono ?_); rw [G0.out]; rintro e w1 ⟨rfl, h⟩; have hK := hK.trans h; obtain ⟨B0, B1, B2⟩ := hbx.out _ hK; obtain ⟨k0a, k0b, k0c, k0d⟩ := B0.four; obtain ⟨k1a, k1b, k1c, k1d⟩ := B1.four; obtain ⟨k2a, k2b, k2c, k2d⟩ := B2.four)
    | (go_at_call 31; (with_reducible refine ((Ref04.right_any a1 ad1 cap1 cp1 b1 sg1 p1 q1 _ (P1.out.since (hS0.trans hK)) (Q1.out.since (hS0.trans hK)) (by have := FW.out; omega) (by have := FW.out; omega))).mono ?_); rw [G1.out]; rintro e w2 ⟨rfl, h⟩; have hK := hK.trans h; obtain ⟨B0, B1, B2⟩ := hbx.out _ hK; obtain ⟨k0a, k0b, k0c, k0d⟩ := B0.four; obtain ⟨k1a, k1b, k1c, k1d⟩ := B1.four; obtain ⟨k2a, k2b, k2c, k2d⟩ := B2.four)
    | (go_at_call 31; (with_reducible refine ((Ref04.right_any a2 ad2 cap2 cp2 b2 sg2 p2 q2 _ (P2.out.since (hS0.trans hK)) (Q2.out.since (hS0.trans hK)) (by have := FW.out; omega) (by have := FW.out; omega))).mono ?_); rw [G2.out]; rintro e w3 ⟨rfl, h⟩; have hK := hK.trans h; obtain ⟨B0, B1, B2⟩ := hbx.out _ hK; obtain ⟨k0a, k0b, k0c, k0d⟩ := B0.four; obtain ⟨k1a, k1b, k1c, k1d⟩ := B1.four; obtain ⟨k2a, k2b, k2c, k2d⟩ := B2.four))
  have hS := hK
  clear hK
  have hall : Hid (∀ W : World, Since w3 W → W.cell? ⟨w.heap.size, 0, none⟩ = some (.bool b0) ∧ W.cell? ⟨w.heap.size, 1, none⟩ = some (.slice a0 p0.length cap0) ∧ W.cell? ⟨w.heap.size, 2, none⟩ = some (.bool sg0) ∧ W.cell? ⟨w.heap.size, 3, none⟩ = some (.slice ad0 q0.length cp0) ∧ W.cell? ⟨w.heap.size + 1, 0, none⟩ = some (.bool b1) ∧ W.cell? ⟨w.heap.size + 1, 1, none⟩ = some (.slice a1 p1.length cap1) ∧ W.cell? ⟨w.heap.size + 1, 2, none⟩ = some (.bool sg1) ∧ W.cell? ⟨w.heap.size + 1, 3, none⟩ = some (.slice ad1 q1.length cp1) ∧ W.cell? ⟨w.heap.size + 1 + 1, 0, none⟩ = some (.bool b2) ∧ W.cell? ⟨w.heap.size + 1 + 1, 1, none⟩ = some (.slice a2 p2.length cap2) ∧ W.cell? ⟨w.heap.size + 1 + 1, 2, none⟩ = some (.bool sg2) ∧ W.cell? ⟨w.heap.size + 1 + 1, 3, none⟩ = some (.slice ad2 q2.length cp2)) := fun W h => by
    obtain ⟨B0, B1, B2⟩ := hbx.out _ (hS.trans h)
    obtain ⟨k0a, k0b, k0c, k0d⟩ := B0.four
    obtain ⟨k1a, k1b, k1c, k1d⟩ := B1.four
    obtain ⟨k2a, k2b, k2c, k2d⟩ := B2.four
    exact ⟨k0a, k0b, k0c, k0d, k1a, k1b, k1c, k1d, k2a, k2b, k2c, k2d⟩
  go_cut [7, 8, 9] (fun pv0 pv1 pv2 W => ∃ (c0 : Nat) (c1 : Nat) (c2 : Nat), pv0 = .pointer (some ⟨c0, 0, none⟩) ∧ pv1 = .pointer (some ⟨c1, 0, none⟩) ∧ pv2 = .pointer (some ⟨c2, 0, none⟩) ∧ Since w3 W ∧ Bx W c0 #[.bool b0, .slice a0 p0.length cap0, .bool sg0, .slice ad0 q0.length cp0] 31 ∧ Bx W c1 #[.bool b1, .slice a1 p1.length cap1, .bool sg1, .slice ad1 q1.length cp1] 31 ∧ Bx W c2 #[.bool b2, .slice a2 p2.length cap2, .bool sg2, .slice ad2 q2.length cp2] 31)
  case first =>
    have hr0 : Since w3 w3.drew := Since.drew (Since.refl w3)
    refine wp_region_noPanic ?_
    refine Reg.wp_region_G (S := fun W => W.cell? ⟨w.heap.size, 0, none⟩ = some (.bool b0) ∧ W.cell? ⟨w.heap.size, 1, none⟩ = some (.slice a0 p0.length cap0) ∧ W.cell? ⟨w.heap.size, 2, none⟩ = some (.bool sg0) ∧ W.cell? ⟨w.heap.size, 3, none⟩ = some (.slice ad0 q0.length cp0) ∧ W.cell? ⟨w.heap.size + 1, 0, none⟩ = some (.bool b1) ∧ W.cell? ⟨w.heap.size + 1, 1, none⟩ = some (.slice a1 p1.length cap1) ∧ W.cell? ⟨w.heap.size + 1, 2, none⟩ = some (.bool sg1) ∧ W.cell? ⟨w.heap.size + 1, 3, none⟩ = some (.slice ad1 q1.length cp1) ∧ W.cell? ⟨w.heap.size + 1 + 1, 0, none⟩ = some (.bool b2) ∧ W.cell? ⟨w.heap.size + 1 + 1, 1, none⟩ = some (.slice a2 p2.length cap2) ∧ W.cell? ⟨w.heap.size + 1 + 1, 2, none⟩ = some (.bool sg2) ∧ W.cell? ⟨w.heap.size + 1 + 1, 3, none⟩ = some (.slice ad2 q2.length cp2)) (fun j => [9, 10, 11].contains j) (by kernel_rfl) ?_ ?_
    · exact hall.out _ hr0
    refine' Reg.wpG_take (i := 0) (oi := { dst := some 38, op := Op.load 26 (Operand.tmp 3), type := 26, pos := "law.go:115", after := #[], guard := none }) (v := _) [1, 3, 5, 9, 10, 11] [9, 10, 11] rfl rfl (by kernel_rfl) (by kernel_rfl) (by kernel_rfl) (by kernel_rfl) (by kernel_rfl) (by kernel_rfl) (by kernel_rfl) (fun _ _ _ h => h) (Or.inl ⟨by rfl, Or.inl ?hy1⟩) ?rest1
    case hy1 => (intro w' kk ss; (try dsimp only at ss); go_simp; first | done | with_reducible rfl)
    try simp only [Act.put, List.setIfInBounds_toArray, List.set_cons_zero, List.set_cons_succ]
    refine Reg.wpG_take (i := 1) (oi := { dst := some 39, op := Op.call { callee := Callee.value (Operand.func 12), args := #[Operand.tmp 38], argTypes := #[26] }, type := 31, pos := "law.go:115", after := #[{ on := 0, ground := Ground.data }], guard := none }) (v := .agg #[.bool b0, .slice a0 p0.length cap0, .bool sg0, .slice ad0 q0.length cp0]) [3, 5, 9, 10, 11] [9, 10, 11] rfl rfl (by kernel_rfl) (by kernel_rfl) (by kernel_rfl) (by kernel_rfl) (by kernel_rfl) (by kernel_rfl) (by kernel_rfl) (fun _ _ _ h => h) (Or.inl ⟨by rfl, Or.inr ⟨12, #[.agg #[.bool b0, .slice a0 p0.length cap0, .bool sg0, .slice ad0 q0.length cp0]], fun w' kk ss => ⟨?_, ?_⟩⟩⟩) ?_
    · (try dsimp only at ss); go_simp
    · exact (Law04.theirs_any a0 ad0 p0.length cap0 q0.length cp0 b0 sg0 w').mono fun e w'' h => ⟨h.1, h.2, hall.out _ (hr0.trans (kk.trans h.2))⟩
    try simp only [Act.put, List.setIfInBounds_toArray, List.set_cons_zero, List.set_cons_succ]
    refine' Reg.wpG_take (i := 2) (oi := { dst := some 40, op := Op.load 26 (Operand.tmp 4), type := 26, pos := "law.go:115", after := #[], guard := none }) (v := _) [3, 5, 9, 10, 11] [9, 10, 11] rfl rfl (by kernel_rfl) (by kernel_rfl) (by kernel_rfl) (by kernel_rfl) (by kernel_rfl) (by kernel_rfl) (by kernel_rfl) (fun _ _ _ h => h) (Or.inl ⟨by rfl, Or.inl ?hy2⟩) ?rest2
    case hy2 => (intro w' kk ss; (try dsimp only at ss); go_simp; first | done | with_reducible rfl)
    try simp only [Act.put, List.setIfInBounds_toArray, List.set_cons_zero, List.set_cons_succ]
    refine Reg.wpG_take (i := 3) (oi := { dst := some 41, op := Op.call { callee := Callee.value (Operand.func 12), args := #[Operand.tmp 40], argTypes := #[26] }, type := 31, pos := "law.go:115", after := #[{ on := 2, ground := Ground.data }, { on := 1, ground := Ground.chain }], guard := none }) (v := .agg #[.bool b1, .slice a1 p1.length cap1, .bool sg1, .slice ad1 q1.length cp1]) [5, 9, 10, 11] [9, 10, 11] rfl rfl (by kernel_rfl) (by kernel_rfl) (by kernel_rfl) (by kernel_rfl) (by kernel_rfl) (by kernel_rfl) (by kernel_rfl) (fun _ _ _ h => h) (Or.inl ⟨by rfl, Or.inr ⟨12, #[.agg #[.bool b1, .slice a1 p1.length cap1, .bool sg1, .slice ad1 q1.length cp1]], fun w' kk ss => ⟨?_, ?_⟩⟩⟩) ?_
    · (try dsimp only at ss); go_simp
    · exact (Law04.theirs_any a1 ad1 p1.length cap1 q1.length cp1 b1 sg1 w').mono fun e w'' h => ⟨h.1, h.2, hall.out _ (hr0.trans (kk.trans h.2))⟩
    try simp only [Act.put, List.setIfInBounds_toArray, List.set_cons_zero, List.set_cons_succ]
    refine' Reg.wpG_take (i := 4) (oi := { dst := some 42, op := Op.load 26 (Operand.tmp 5), type := 26, pos := "law.go:115", after := #[], guard := none }) (v := _) [5, 9, 10, 11] [9, 10, 11] rfl rfl (by kernel_rfl) (by kernel_rfl) (by kernel_rfl) (by kernel_rfl) (by kernel_rfl) (by kernel_rfl) (by kernel_rfl) (fun _ _ _ h => h) (Or.inl ⟨by rfl, Or.inl ?hy3⟩) ?rest3
    case hy3 => (intro w' kk ss; (try dsimp only at ss); go_simp; first | done | with_reducible rfl)
    try simp only [Act.put, List.setIfInBounds_toArray, List.set_cons_zero, List.set_cons_succ]
    refine Reg.wpG_take (i := 5) (oi := { dst := some 43, op := Op.call { callee := Callee.value (Operand.func 12), args := #[Operand.tmp 42], argTypes := #[26] }, type := 31, pos := "law.go:115", after := #[{ on := 4, ground := Ground.data }, { on := 3, ground := Ground.chain }], guard := none }) (v := .agg #[.bool b2, .slice a2 p2.length cap2, .bool sg2, .slice ad2 q2.length cp2]) [9, 10, 11] [9, 10, 11] rfl rfl (by kernel_rfl) (by kernel_rfl) (by kernel_rfl) (by kernel_rfl) (by kernel_rfl) (by kernel_rfl) (by kernel_rfl) (fun _ _ _ h => h) (Or.inl ⟨by rfl, Or.inr ⟨12, #[.agg #[.bool b2, .slice a2 p2.length cap2, .bool sg2, .slice ad2 q2.length cp2]], fun w' kk ss => ⟨?_, ?_⟩⟩⟩) ?_
    · (try dsimp only at ss); go_simp
    · exact (Law04.theirs_any a2 ad2 p2.length cap2 q2.length cp2 b2 sg2 w').mono fun e w'' h => ⟨h.1, h.2, hall.out _ (hr0.trans (kk.trans h.2))⟩
    try simp only [Act.put, List.setIfInBounds_toArray, List.set_cons_zero, List.set_cons_succ]
    refine Reg.wpG_ready (rs := [6, 7, 8]) (by kernel_rfl) (by simp) (fun wq1 k1' sq1 => ?_)
    have hr0 := hr0.trans k1'
    refine Reg.AllG.first (o := { dst := some 7, op := Op.alloc 31, type := 0, pos := "law.go:115", after := #[], guard := none }) rfl (by rfl) (fun K hK => ?_) (Reg.AllG.first (o := { dst := some 8, op := Op.alloc 31, type := 0, pos := "law.go:115", after := #[], guard := none }) rfl (by rfl) (fun K hK => ?_) (Reg.AllG.first (o := { dst := some 9, op := Op.alloc 31, type := 0, pos := "law.go:115", after := #[], guard := none }) rfl (by rfl) (fun K hK => ?_) Reg.AllG.nil))
    · go_simp
      refine hK.out _ _ ?_ (since_alloc _ _) ?_
      · exact hall.out _ (hr0.trans (since_alloc _ _))
      clear hK K
      try simp only [Act.put, List.setIfInBounds_toArray, List.set_cons_zero, List.set_cons_succ]
      have gb0 := Bx.fresh wq1 #[.bool false, .slice none 0 0, .bool false, .slice none 0 0] 31
      have hb0 : w3.heap.size ≤ wq1.heap.size := hr0.size
      have hr0 := hr0.trans (since_alloc wq1 (.cells #[.bool false, .slice none 0 0, .bool false, .slice none 0 0] 31))
      refine Reg.wpG_ready (rs := [7, 8]) (by kernel_rfl) (by simp) (fun wq2 k2' sq2 => ?_)
      have hr0 := hr0.trans k2'
      have gb0 := gb0.since k2'
      refine Reg.AllG.first (o := { dst := some 8, op := Op.alloc 31, type := 0, pos := "law.go:115", after := #[], guard := none }) rfl (by rfl) (fun K hK => ?_) (Reg.AllG.first (o := { dst := some 9, op := Op.alloc 31, type := 0, pos := "law.go:115", after := #[], guard := none }) rfl (by rfl) (fun K hK => ?_) Reg.AllG.nil)
      · go_simp
        refine hK.out _ _ ?_ (since_alloc _ _) ?_
        · exact hall.out _ (hr0.trans (since_alloc _ _))
        clear hK K
        try simp only [Act.put, List.setIfInBounds_toArray, List.set_cons_zero, List.set_cons_succ]
        have nq01 : wq1.heap.size ≠ wq2.heap.size := Nat.ne_of_lt gb0.lt
        have nq10 : wq2.heap.size ≠ wq1.heap.size := Ne.symm nq01
        have gb0 := gb0.since (since_alloc wq2 (.cells #[.bool false, .slice none 0 0, .bool false, .slice none 0 0] 31))
        have gb1 := Bx.fresh wq2 #[.bool false, .slice none 0 0, .bool false, .slice none 0 0] 31
        have hb1 : w3.heap.size ≤ wq2.heap.size := hr0.size
        have hr0 := hr0.trans (since_alloc wq2 (.cells #[.bool false, .slice none 0 0, .bool false, .slice none 0 0] 31))
        refine Reg.wpG_ready (rs := [8]) (by kernel_rfl) (by simp) (fun wq3 k3' sq3 => ?_)
        have hr0 := hr0.trans k3'
        have gb0 := gb0.since k3'
        have gb1 := gb1.since k3'
        refine Reg.AllG.first (o := { dst := some 9, op := Op.alloc 31, type := 0, pos := "law.go:115", after := #[], guard := none }) rfl (by rfl) (fun K hK => ?_) Reg.AllG.nil
        · go_simp
          refine hK.out _ _ ?_ (since_alloc _ _) ?_
          · exact hall.out _ (hr0.trans (since_alloc _ _))
          clear hK K
          try simp only [Act.put, List.setIfInBounds_toArray, List.set_cons_zero, List.set_cons_succ]
          have nq02 : wq1.heap.size ≠ wq3.heap.size := Nat.ne_of_lt gb0.lt
          have nq20 : wq3.heap.size ≠ wq1.heap.size := Ne.symm nq02
          have nq12 : wq2.heap.size ≠ wq3.heap.size := Nat.ne_of_lt gb1.lt
          have nq21 : wq3.heap.size ≠ wq2.heap.size := Ne.symm nq12
          have gb0 := gb0.since (since_alloc wq3 (.cells #[.bool false, .slice none 0 0, .bool false, .slice none 0 0] 31))
          have gb1 := gb1.since (since_alloc wq3 (.cells #[.bool false, .slice none 0 0, .bool false, .slice none 0 0] 31))
          have gb2 := Bx.fresh wq3 #[.bool false, .slice none 0 0, .bool false, .slice none 0 0] 31
          have hb2 : w3.heap.size ≤ wq3.heap.size := hr0.size
          have hr0 := hr0.trans (since_alloc wq3 (.cells #[.bool false, .slice none 0 0, .bool false, .slice none 0 0] 31))
          refine Reg.wpG_ready (rs := [9]) (by kernel_rfl) (by simp) (fun wz5 kz sz => ?_)
          have hr0 := hr0.trans kz
          have gb0 := gb0.since kz
          have gb1 := gb1.since kz
          have gb2 := gb2.since kz
          generalize wq1.heap.size = bq0 at *
          generalize wq2.heap.size = bq1 at *
          generalize wq3.heap.size = bq2 at *
          obtain ⟨gz0a, gz0b, gz0c, gz0d⟩ := gb0.four
          obtain ⟨fz0a, fz0b, fz0c, fz0d⟩ := gb0.four'
          obtain ⟨gz1a, gz1b, gz1c, gz1d⟩ := gb1.four
          obtain ⟨fz1a, fz1b, fz1c, fz1d⟩ := gb1.four'
          obtain ⟨gz2a, gz2b, gz2c, gz2d⟩ := gb2.four
          obtain ⟨fz2a, fz2b, fz2c, fz2d⟩ := gb2.four'
          refine Reg.AllG.last (o := { dst := none, op := Op.store 31 (Operand.tmp 7) (Operand.tmp 39), type := 0, pos := "law.go:115", after := #[{ on := 6, ground := Ground.data }, { on := 1, ground := Ground.data }, { on := 5, ground := Ground.chain }, { on := 0, ground := Ground.phase }, { on := 1, ground := Ground.phase }, { on := 2, ground := Ground.textOnly Departure.lateStores }, { on := 3, ground := Ground.textOnly Departure.lateStoresUnsure }, { on := 4, ground := Ground.textOnly Departure.lateStores }, { on := 5, ground := Ground.textOnly Departure.lateStoresUnsure }, { on := 6, ground := Ground.phase }, { on := 7, ground := Ground.phase }, { on := 8, ground := Ground.phase }], guard := none }) rfl (by rfl) (fun K hK => ?_) Reg.AllG.nil
          go_simp
          refine hK.out _ _ ?_ (fun hHeld => ?_)
          · exact hall.out _ (since_put4 hr0 hb0 _ _ _ _)
          clear hK K
          try simp only [Act.put, List.setIfInBounds_toArray, List.set_cons_zero, List.set_cons_succ]
          refine wpAnyH_ready (rs := [10]) (by kernel_rfl) (by simp) ?_
          refine AllReadyH.cons (o := { dst := none, op := Op.store 31 (Operand.tmp 8) (Operand.tmp 41), type := 0, pos := "law.go:115", after := #[{ on := 7, ground := Ground.data }, { on := 3, ground := Ground.data }, { on := 9, ground := Ground.chain }, { on := 0, ground := Ground.phase }, { on := 1, ground := Ground.phase }, { on := 2, ground := Ground.phase }, { on := 3, ground := Ground.phase }, { on := 4, ground := Ground.textOnly Departure.lateStores }, { on := 5, ground := Ground.textOnly Departure.lateStoresUnsure }, { on := 6, ground := Ground.phase }, { on := 7, ground := Ground.phase }, { on := 8, ground := Ground.phase }, { on := 9, ground := Ground.phase }], guard := none }) rfl (fun K hK => ?_) AllReadyH.nil
          go_simp
          refine hK.out _ _ ?_ (fun hHeld => ?_)
          · exact hall.out _ (since_put4 (since_put4 hr0 hb0 _ _ _ _) hb1 _ _ _ _)
          clear hK K
          try simp only [Act.put, List.setIfInBounds_toArray, List.set_cons_zero, List.set_cons_succ]
          refine wpAnyH_ready (rs := [11]) (by kernel_rfl) (by simp) ?_
          refine AllReadyH.cons (o := { dst := none, op := Op.store 31 (Operand.tmp 9) (Operand.tmp 43), type := 0, pos := "law.go:115", after := #[{ on := 8, ground := Ground.data }, { on := 5, ground := Ground.data }, { on := 10, ground := Ground.chain }, { on := 0, ground := Ground.phase }, { on := 1, ground := Ground.phase }, { on := 2, ground := Ground.phase }, { on := 3, ground := Ground.phase }, { on := 4, ground := Ground.phase }, { on := 5, ground := Ground.phase }, { on := 6, ground := Ground.phase }, { on := 7, ground := Ground.phase }, { on := 8, ground := Ground.phase }, { on := 9, ground := Ground.phase }, { on := 10, ground := Ground.phase }], guard := none }) rfl (fun K hK => ?_) AllReadyH.nil
          go_simp
          refine hK.out _ _ ?_ (fun hHeld => ?_)
          · exact hall.out _ (since_put4 (since_put4 (since_put4 hr0 hb0 _ _ _ _) hb1 _ _ _ _) hb2 _ _ _ _)
          clear hK K
          try simp only [Act.put, List.setIfInBounds_toArray, List.set_cons_zero, List.set_cons_succ]
          refine wpAnyH_done (by kernel_rfl) ?_ _
          refine NoPanic.normal ?_
          go_wp2_with fail
          go_meet
          exact ⟨_, _, _, rfl, rfl, rfl, (since_put4 (since_put4 (since_put4 hr0 hb0 _ _ _ _) hb1 _ _ _ _) hb2 _ _ _ _), (((gb0.put4 _ _ _ _).stay nq01 (put4_far _ _ _ _ _ _)).stay nq02 (put4_far _ _ _ _ _ _)), (((gb1.stay nq10 (put4_far _ _ _ _ _ _)).put4 _ _ _ _).stay nq12 (put4_far _ _ _ _ _ _)), (((gb2.stay nq20 (put4_far _ _ _ _ _ _)).stay nq21 (put4_far _ _ _ _ _ _)).put4 _ _ _ _)⟩
      · go_simp
        refine hK.out _ _ ?_ (since_alloc _ _) ?_
        · exact hall.out _ (hr0.trans (since_alloc _ _))
        clear hK K
        try simp only [Act.put, List.setIfInBounds_toArray, List.set_cons_zero, List.set_cons_succ]
        have nq02 : wq1.heap.size ≠ wq2.heap.size := Nat.ne_of_lt gb0.lt
        have nq20 : wq2.heap.size ≠ wq1.heap.size := Ne.symm nq02
        have gb0 := gb0.since (since_alloc wq2 (.cells #[.bool false, .slice none 0 0, .bool false, .slice none 0 0] 31))
        have gb2 := Bx.fresh wq2 #[.bool false, .slice none 0 0, .bool false, .slice none 0 0] 31
        have hb2 : w3.heap.size ≤ wq2.heap.size := hr0.size
        have hr0 := hr0.trans (since_alloc wq2 (.cells #[.bool false, .slice none 0 0, .bool false, .slice none 0 0] 31))
        refine Reg.wpG_ready (rs := [7]) (by kernel_rfl) (by simp) (fun wq6 k6' sq6 => ?_)
        have hr0 := hr0.trans k6'
        have gb0 := gb0.since k6'
        have gb2 := gb2.since k6'
        refine Reg.AllG.first (o := { dst := some 8, op := Op.alloc 31, type := 0, pos := "law.go:115", after := #[], guard := none }) rfl (by rfl) (fun K hK => ?_) Reg.AllG.nil
        · go_simp
          refine hK.out _ _ ?_ (since_alloc _ _) ?_
          · exact hall.out _ (hr0.trans (since_alloc _ _))
          clear hK K
          try simp only [Act.put, List.setIfInBounds_toArray, List.set_cons_zero, List.set_cons_succ]
          have nq01 : wq1.heap.size ≠ wq6.heap.size := Nat.ne_of_lt gb0.lt
          have nq10 : wq6.heap.size ≠ wq1.heap.size := Ne.symm nq01
          have nq21 : wq2.heap.size ≠ wq6.heap.size := Nat.ne_of_lt gb2.lt
          have nq12 : wq6.heap.size ≠ wq2.heap.size := Ne.symm nq21
          have gb0 := gb0.since (since_alloc wq6 (.cells #[.bool false, .slice none 0 0, .bool false, .slice none 0 0] 31))
          have gb2 := gb2.since (since_alloc wq6 (.cells #[.bool false, .slice none 0 0, .bool false, .slice none 0 0] 31))
          have gb1 := Bx.fresh wq6 #[.bool false, .slice none 0 0, .bool false, .slice none 0 0] 31
          have hb1 : w3.heap.size ≤ wq6.heap.size := hr0.size
          have hr0 := hr0.trans (since_alloc wq6 (.cells #[.bool false, .slice none 0 0, .bool false, .slice none 0 0] 31))
          refine Reg.wpG_ready (rs := [9]) (by kernel_rfl) (by simp) (fun wz8 kz sz => ?_)
          have hr0 := hr0.trans kz
          have gb0 := gb0.since kz
          have gb2 := gb2.since kz
          have gb1 := gb1.since kz
          generalize wq1.heap.size = bq0 at *
          generalize wq2.heap.size = bq2 at *
          generalize wq6.heap.size = bq1 at *
          obtain ⟨gz0a, gz0b, gz0c, gz0d⟩ := gb0.four
          obtain ⟨fz0a, fz0b, fz0c, fz0d⟩ := gb0.four'
          obtain ⟨gz2a, gz2b, gz2c, gz2d⟩ := gb2.four
          obtain ⟨fz2a, fz2b, fz2c, fz2d⟩ := gb2.four'
          obtain ⟨gz1a, gz1b, gz1c, gz1d⟩ := gb1.four
          obtain ⟨fz1a, fz1b, fz1c, fz1d⟩ := gb1.four'
          refine Reg.AllG.last (o := { dst := none, op := Op.store 31 (Operand.tmp 7) (Operand.tmp 39), type := 0, pos := "law.go:115", after := #[{ on := 6, ground := Ground.data }, { on := 1, ground := Ground.data }, { on := 5, ground := Ground.chain }, { on := 0, ground := Ground.phase }, { on := 1, ground := Ground.phase }, { on := 2, ground := Ground.textOnly Departure.lateStores }, { on := 3, ground := Ground.textOnly Departure.lateStoresUnsure }, { on := 4, ground := Ground.textOnly Departure.lateStores }, { on := 5, ground := Ground.textOnly Departure.lateStoresUnsure }, { on := 6, ground := Ground.phase }, { on := 7, ground := Ground.phase }, { on := 8, ground := Ground.phase }], guard := none }) rfl (by rfl) (fun K hK => ?_) Reg.AllG.nil
          go_simp
          refine hK.out _ _ ?_ (fun hHeld => ?_)
          · exact hall.out _ (since_put4 hr0 hb0 _ _ _ _)
          clear hK K
          try simp only [Act.put, List.setIfInBounds_toArray, List.set_cons_zero, List.set_cons_succ]
          refine wpAnyH_ready (rs := [10]) (by kernel_rfl) (by simp) ?_
          refine AllReadyH.cons (o := { dst := none, op := Op.store 31 (Operand.tmp 8) (Operand.tmp 41), type := 0, pos := "law.go:115", after := #[{ on := 7, ground := Ground.data }, { on := 3, ground := Ground.data }, { on := 9, ground := Ground.chain }, { on := 0, ground := Ground.phase }, { on := 1, ground := Ground.phase }, { on := 2, ground := Ground.phase }, { on := 3, ground := Ground.phase }, { on := 4, ground := Ground.textOnly Departure.lateStores }, { on := 5, ground := Ground.textOnly Departure.lateStoresUnsure }, { on := 6, ground := Ground.phase }, { on := 7, ground := Ground.phase }, { on := 8, ground := Ground.phase }, { on := 9, ground := Ground.phase }], guard := none }) rfl (fun K hK => ?_) AllReadyH.nil
          go_simp
          refine hK.out _ _ ?_ (fun hHeld => ?_)
          · exact hall.out _ (since_put4 (since_put4 hr0 hb0 _ _ _ _) hb1 _ _ _ _)
          clear hK K
          try simp only [Act.put, List.setIfInBounds_toArray, List.set_cons_zero, List.set_cons_succ]
          refine wpAnyH_ready (rs := [11]) (by kernel_rfl) (by simp) ?_
          refine AllReadyH.cons (o := { dst := none, op := Op.store 31 (Operand.tmp 9) (Operand.tmp 43), type := 0, pos := "law.go:115", after := #[{ on := 8, ground := Ground.data }, { on := 5, ground := Ground.data }, { on := 10, ground := Ground.chain }, { on := 0, ground := Ground.phase }, { on := 1, ground := Ground.phase }, { on := 2, ground := Ground.phase }, { on := 3, ground := Ground.phase }, { on := 4, ground := Ground.phase }, { on := 5, ground := Ground.phase }, { on := 6, ground := Ground.phase }, { on := 7, ground := Ground.phase }, { on := 8, ground := Ground.phase }, { on := 9, ground := Ground.phase }, { on := 10, ground := Ground.phase }], guard := none }) rfl (fun K hK => ?_) AllReadyH.nil
          go_simp
          refine hK.out _ _ ?_ (fun hHeld => ?_)
          · exact hall.out _ (since_put4 (since_put4 (since_put4 hr0 hb0 _ _ _ _) hb1 _ _ _ _) hb2 _ _ _ _)
          clear hK K
          try simp only [Act.put, List.setIfInBounds_toArray, List.set_cons_zero, List.set_cons_succ]
          refine wpAnyH_done (by kernel_rfl) ?_ _
          refine NoPanic.normal ?_
          go_wp2_with fail
          go_meet
          exact ⟨_, _, _, rfl, rfl, rfl, (since_put4 (since_put4 (since_put4 hr0 hb0 _ _ _ _) hb1 _ _ _ _) hb2 _ _ _ _), (((gb0.put4 _ _ _ _).stay nq01 (put4_far _ _ _ _ _ _)).stay nq02 (put4_far _ _ _ _ _ _)), (((gb1.stay nq10 (put4_far _ _ _ _ _ _)).put4 _ _ _ _).stay nq12 (put4_far _ _ _ _ _ _)), (((gb2.stay nq20 (put4_far _ _ _ _ _ _)).stay nq21 (put4_far _ _ _ _ _ _)).put4 _ _ _ _)⟩
    · go_simp
      refine hK.out _ _ ?_ (since_alloc _ _) ?_
      · exact hall.out _ (hr0.trans (since_alloc _ _))
      clear hK K
      try simp only [Act.put, List.setIfInBounds_toArray, List.set_cons_zero, List.set_cons_succ]
      have gb1 := Bx.fresh wq1 #[.bool false, .slice none 0 0, .bool false, .slice none 0 0] 31
      have hb1 : w3.heap.size ≤ wq1.heap.size := hr0.size
      have hr0 := hr0.trans (since_alloc wq1 (.cells #[.bool false, .slice none 0 0, .bool false, .slice none 0 0] 31))
      refine Reg.wpG_ready (rs := [6, 8]) (by kernel_rfl) (by simp) (fun wq9 k9' sq9 => ?_)
      have hr0 := hr0.trans k9'
      have gb1 := gb1.since k9'
      refine Reg.AllG.first (o := { dst := some 7, op := Op.alloc 31, type := 0, pos := "law.go:115", after := #[], guard := none }) rfl (by rfl) (fun K hK => ?_) (Reg.AllG.first (o := { dst := some 9, op := Op.alloc 31, type := 0, pos := "law.go:115", after := #[], guard := none }) rfl (by rfl) (fun K hK => ?_) Reg.AllG.nil)
      · go_simp
        refine hK.out _ _ ?_ (since_alloc _ _) ?_
        · exact hall.out _ (hr0.trans (since_alloc _ _))
        clear hK K
        try simp only [Act.put, List.setIfInBounds_toArray, List.set_cons_zero, List.set_cons_succ]
        have nq10 : wq1.heap.size ≠ wq9.heap.size := Nat.ne_of_lt gb1.lt
        have nq01 : wq9.heap.size ≠ wq1.heap.size := Ne.symm nq10
        have gb1 := gb1.since (since_alloc wq9 (.cells #[.bool false, .slice none 0 0, .bool false, .slice none 0 0] 31))
        have gb0 := Bx.fresh wq9 #[.bool false, .slice none 0 0, .bool false, .slice none 0 0] 31
        have hb0 : w3.heap.size ≤ wq9.heap.size := hr0.size
        have hr0 := hr0.trans (since_alloc wq9 (.cells #[.bool false, .slice none 0 0, .bool false, .slice none 0 0] 31))
        refine Reg.wpG_ready (rs := [8]) (by kernel_rfl) (by simp) (fun wq10 k10' sq10 => ?_)
        have hr0 := hr0.trans k10'
        have gb1 := gb1.since k10'
        have gb0 := gb0.since k10'
        refine Reg.AllG.first (o := { dst := some 9, op := Op.alloc 31, type := 0, pos := "law.go:115", after := #[], guard := none }) rfl (by rfl) (fun K hK => ?_) Reg.AllG.nil
        · go_simp
          refine hK.out _ _ ?_ (since_alloc _ _) ?_
          · exact hall.out _ (hr0.trans (since_alloc _ _))
          clear hK K
          try simp only [Act.put, List.setIfInBounds_toArray, List.set_cons_zero, List.set_cons_succ]
          have nq12 : wq1.heap.size ≠ wq10.heap.size := Nat.ne_of_lt gb1.lt
          have nq21 : wq10.heap.size ≠ wq1.heap.size := Ne.symm nq12
          have nq02 : wq9.heap.size ≠ wq10.heap.size := Nat.ne_of_lt gb0.lt
          have nq20 : wq10.heap.size ≠ wq9.heap.size := Ne.symm nq02
          have gb1 := gb1.since (since_alloc wq10 (.cells #[.bool false, .slice none 0 0, .bool false, .slice none 0 0] 31))
          have gb0 := gb0.since (since_alloc wq10 (.cells #[.bool false, .slice none 0 0, .bool false, .slice none 0 0] 31))
          have gb2 := Bx.fresh wq10 #[.bool false, .slice none 0 0, .bool false, .slice none 0 0] 31
          have hb2 : w3.heap.size ≤ wq10.heap.size := hr0.size
          have hr0 := hr0.trans (since_alloc wq10 (.cells #[.bool false, .slice none 0 0, .bool false, .slice none 0 0] 31))
          refine Reg.wpG_ready (rs := [9]) (by kernel_rfl) (by simp) (fun wz12 kz sz => ?_)
          have hr0 := hr0.trans kz
          have gb1 := gb1.since kz
          have gb0 := gb0.since kz
          have gb2 := gb2.since kz
          generalize wq1.heap.size = bq1 at *
          generalize wq9.heap.size = bq0 at *
          generalize wq10.heap.size = bq2 at *
          obtain ⟨gz1a, gz1b, gz1c, gz1d⟩ := gb1.four
          obtain ⟨fz1a, fz1b, fz1c, fz1d⟩ := gb1.four'
          obtain ⟨gz0a, gz0b, gz0c, gz0d⟩ := gb0.four
          obtain ⟨fz0a, fz0b, fz0c, fz0d⟩ := gb0.four'
          obtain ⟨gz2a, gz2b, gz2c, gz2d⟩ := gb2.four
          obtain ⟨fz2a, fz2b, fz2c, fz2d⟩ := gb2.four'
          refine Reg.AllG.last (o := { dst := none, op := Op.store 31 (Operand.tmp 7) (Operand.tmp 39), type := 0, pos := "law.go:115", after := #[{ on := 6, ground := Ground.data }, { on := 1, ground := Ground.data }, { on := 5, ground := Ground.chain }, { on := 0, ground := Ground.phase }, { on := 1, ground := Ground.phase }, { on := 2, ground := Ground.textOnly Departure.lateStores }, { on := 3, ground := Ground.textOnly Departure.lateStoresUnsure }, { on := 4, ground := Ground.textOnly Departure.lateStores }, { on := 5, ground := Ground.textOnly Departure.lateStoresUnsure }, { on := 6, ground := Ground.phase }, { on := 7, ground := Ground.phase }, { on := 8, ground := Ground.phase }], guard := none }) rfl (by rfl) (fun K hK => ?_) Reg.AllG.nil
          go_simp
          refine hK.out _ _ ?_ (fun hHeld => ?_)
          · exact hall.out _ (since_put4 hr0 hb0 _ _ _ _)
          clear hK K
          try simp only [Act.put, List.setIfInBounds_toArray, List.set_cons_zero, List.set_cons_succ]
          refine wpAnyH_ready (rs := [10]) (by kernel_rfl) (by simp) ?_
          refine AllReadyH.cons (o := { dst := none, op := Op.store 31 (Operand.tmp 8) (Operand.tmp 41), type := 0, pos := "law.go:115", after := #[{ on := 7, ground := Ground.data }, { on := 3, ground := Ground.data }, { on := 9, ground := Ground.chain }, { on := 0, ground := Ground.phase }, { on := 1, ground := Ground.phase }, { on := 2, ground := Ground.phase }, { on := 3, ground := Ground.phase }, { on := 4, ground := Ground.textOnly Departure.lateStores }, { on := 5, ground := Ground.textOnly Departure.lateStoresUnsure }, { on := 6, ground := Ground.phase }, { on := 7, ground := Ground.phase }, { on := 8, ground := Ground.phase }, { on := 9, ground := Ground.phase }], guard := none }) rfl (fun K hK => ?_) AllReadyH.nil
          go_simp
          refine hK.out _ _ ?_ (fun hHeld => ?_)
          · exact hall.out _ (since_put4 (since_put4 hr0 hb0 _ _ _ _) hb1 _ _ _ _)
          clear hK K
          try simp only [Act.put, List.setIfInBounds_toArray, List.set_cons_zero, List.set_cons_succ]
          refine wpAnyH_ready (rs := [11]) (by kernel_rfl) (by simp) ?_
          refine AllReadyH.cons (o := { dst := none, op := Op.store 31 (Operand.tmp 9) (Operand.tmp 43), type := 0, pos := "law.go:115", after := #[{ on := 8, ground := Ground.data }, { on := 5, ground := Ground.data }, { on := 10, ground := Ground.chain }, { on := 0, ground := Ground.phase }, { on := 1, ground := Ground.phase }, { on := 2, ground := Ground.phase }, { on := 3, ground := Ground.phase }, { on := 4, ground := Ground.phase }, { on := 5, ground := Ground.phase }, { on := 6, ground := Ground.phase }, { on := 7, ground := Ground.phase }, { on := 8, ground := Ground.phase }, { on := 9, ground := Ground.phase }, { on := 10, ground := Ground.phase }], guard := none }) rfl (fun K hK => ?_) AllReadyH.nil
          go_simp
          refine hK.out _ _ ?_ (fun hHeld => ?_)
          · exact hall.out _ (since_put4 (since_put4 (since_put4 hr0 hb0 _ _ _ _) hb1 _ _ _ _) hb2 _ _ _ _)
          clear hK K
          try simp only [Act.put, List.setIfInBounds_toArray, List.set_cons_zero, List.set_cons_succ]
          refine wpAnyH_done (by kernel_rfl) ?_ _
          refine NoPanic.normal ?_
          go_wp2_with fail
          go_meet
          exact ⟨_, _, _, rfl, rfl, rfl, (since_put4 (since_put4 (since_put4 hr0 hb0 _ _ _ _) hb1 _ _ _ _) hb2 _ _ _ _), (((gb0.put4 _ _ _ _).stay nq01 (put4_far _ _ _ _ _ _)).stay nq02 (put4_far _ _ _ _ _ _)), (((gb1.stay nq10 (put4_far _ _ _ _ _ _)).put4 _ _ _ _).stay nq12 (put4_far _ _ _ _ _ _)), (((gb2.stay nq20 (put4_far _ _ _ _ _ _)).stay nq21 (put4_far _ _ _ _ _ _)).put4 _ _ _ _)⟩
      · go_simp
        refine hK.out _ _ ?_ (since_alloc _ _) ?_
        · exact hall.out _ (hr0.trans (since_alloc _ _))
        clear hK K
        try simp only [Act.put, List.setIfInBounds_toArray, List.set_cons_zero, List.set_cons_succ]
        have nq12 : wq1.heap.size ≠ wq9.heap.size := Nat.ne_of_lt gb1.lt
        have nq21 : wq9.heap.size ≠ wq1.heap.size := Ne.symm nq12
        have gb1 := gb1.since (since_alloc wq9 (.cells #[.bool false, .slice none 0 0, .bool false, .slice none 0 0] 31))
        have gb2 := Bx.fresh wq9 #[.bool false, .slice none 0 0, .bool false, .slice none 0 0] 31
        have hb2 : w3.heap.size ≤ wq9.heap.size := hr0.size
        have hr0 := hr0.trans (since_alloc wq9 (.cells #[.bool false, .slice none 0 0, .bool false, .slice none 0 0] 31))
        refine Reg.wpG_ready (rs := [6]) (by kernel_rfl) (by simp) (fun wq13 k13' sq13 => ?_)
        have hr0 := hr0.trans k13'
        have gb1 := gb1.since k13'
        have gb2 := gb2.since k13'
        refine Reg.AllG.first (o := { dst := some 7, op := Op.alloc 31, type := 0, pos := "law.go:115", after := #[], guard := none }) rfl (by rfl) (fun K hK => ?_) Reg.AllG.nil
        · go_simp
          refine hK.out _ _ ?_ (since_alloc _ _) ?_
          · exact hall.out _ (hr0.trans (since_alloc _ _))
          clear hK K
          try simp only [Act.put, List.setIfInBounds_toArray, List.set_cons_zero, List.set_cons_succ]
          have nq10 : wq1.heap.size ≠ wq13.heap.size := Nat.ne_of_lt gb1.lt
          have nq01 : wq13.heap.size ≠ wq1.heap.size := Ne.symm nq10
          have nq20 : wq9.heap.size ≠ wq13.heap.size := Nat.ne_of_lt gb2.lt
          have nq02 : wq13.heap.size ≠ wq9.heap.size := Ne.symm nq20
          have gb1 := gb1.since (since_alloc wq13 (.cells #[.bool false, .slice none 0 0, .bool false, .slice none 0 0] 31))
          have gb2 := gb2.since (since_alloc wq13 (.cells #[.bool false, .slice none 0 0, .bool false, .slice none 0 0] 31))
          have gb0 := Bx.fresh wq13 #[.bool false, .slice none 0 0, .bool false, .slice none 0 0] 31
          have hb0 : w3.heap.size ≤ wq13.heap.size := hr0.size
          have hr0 := hr0.trans (since_alloc wq13 (.cells #[.bool false, .slice none 0 0, .bool false, .slice none 0 0] 31))
          refine Reg.wpG_ready (rs := [9]) (by kernel_rfl) (by simp) (fun wz15 kz sz => ?_)
          have hr0 := hr0.trans kz
          have gb1 := gb1.since kz
          have gb2 := gb2.since kz
          have gb0 := gb0.since kz
          generalize wq1.heap.size = bq1 at *
          generalize wq9.heap.size = bq2 at *
          generalize wq13.heap.size = bq0 at *
          obtain ⟨gz1a, gz1b, gz1c, gz1d⟩ := gb1.four
          obtain ⟨fz1a, fz1b, fz1c, fz1d⟩ := gb1.four'
          obtain ⟨gz2a, gz2b, gz2c, gz2d⟩ := gb2.four
          obtain ⟨fz2a, fz2b, fz2c, fz2d⟩ := gb2.four'
          obtain ⟨gz0a, gz0b, gz0c, gz0d⟩ := gb0.four
          obtain ⟨fz0a, fz0b, fz0c, fz0d⟩ := gb0.four'
          refine Reg.AllG.last (o := { dst := none, op := Op.store 31 (Operand.tmp 7) (Operand.tmp 39), type := 0, pos := "law.go:115", after := #[{ on := 6, ground := Ground.data }, { on := 1, ground := Ground.data }, { on := 5, ground := Ground.chain }, { on := 0, ground := Ground.phase }, { on := 1, ground := Ground.phase }, { on := 2, ground := Ground.textOnly Departure.lateStores }, { on := 3, ground := Ground.textOnly Departure.lateStoresUnsure }, { on := 4, ground := Ground.textOnly Departure.lateStores }, { on := 5, ground := Ground.textOnly Departure.lateStoresUnsure }, { on := 6, ground := Ground.phase }, { on := 7, ground := Ground.phase }, { on := 8, ground := Ground.phase }], guard := none }) rfl (by rfl) (fun K hK => ?_) Reg.AllG.nil
          go_simp
          refine hK.out _ _ ?_ (fun hHeld => ?_)
          · exact hall.out _ (since_put4 hr0 hb0 _ _ _ _)
          clear hK K
          try simp only [Act.put, List.setIfInBounds_toArray, List.set_cons_zero, List.set_cons_succ]
          refine wpAnyH_ready (rs := [10]) (by kernel_rfl) (by simp) ?_
          refine AllReadyH.cons (o := { dst := none, op := Op.store 31 (Operand.tmp 8) (Operand.tmp 41), type := 0, pos := "law.go:115", after := #[{ on := 7, ground := Ground.data }, { on := 3, ground := Ground.data }, { on := 9, ground := Ground.chain }, { on := 0, ground := Ground.phase }, { on := 1, ground := Ground.phase }, { on := 2, ground := Ground.phase }, { on := 3, ground := Ground.phase }, { on := 4, ground := Ground.textOnly Departure.lateStores }, { on := 5, ground := Ground.textOnly Departure.lateStoresUnsure }, { on := 6, ground := Ground.phase }, { on := 7, ground := Ground.phase }, { on := 8, ground := Ground.phase }, { on := 9, ground := Ground.phase }], guard := none }) rfl (fun K hK => ?_) AllReadyH.nil
          go_simp
          refine hK.out _ _ ?_ (fun hHeld => ?_)
          · exact hall.out _ (since_put4 (since_put4 hr0 hb0 _ _ _ _) hb1 _ _ _ _)
          clear hK K
          try simp only [Act.put, List.setIfInBounds_toArray, List.set_cons_zero, List.set_cons_succ]
          refine wpAnyH_ready (rs := [11]) (by kernel_rfl) (by simp) ?_
          refine AllReadyH.cons (o := { dst := none, op := Op.store 31 (Operand.tmp 9) (Operand.tmp 43), type := 0, pos := "law.go:115", after := #[{ on := 8, ground := Ground.data }, { on := 5, ground := Ground.data }, { on := 10, ground := Ground.chain }, { on := 0, ground := Ground.phase }, { on := 1, ground := Ground.phase }, { on := 2, ground := Ground.phase }, { on := 3, ground := Ground.phase }, { on := 4, ground := Ground.phase }, { on := 5, ground := Ground.phase }, { on := 6, ground := Ground.phase }, { on := 7, ground := Ground.phase }, { on := 8, ground := Ground.phase }, { on := 9, ground := Ground.phase }, { on := 10, ground := Ground.phase }], guard := none }) rfl (fun K hK => ?_) AllReadyH.nil
          go_simp
          refine hK.out _ _ ?_ (fun hHeld => ?_)
          · exact hall.out _ (since_put4 (since_put4 (since_put4 hr0 hb0 _ _ _ _) hb1 _ _ _ _) hb2 _ _ _ _)
          clear hK K
          try simp only [Act.put, List.setIfInBounds_toArray, List.set_cons_zero, List.set_cons_succ]
          refine wpAnyH_done (by kernel_rfl) ?_ _
          refine NoPanic.normal ?_
          go_wp2_with fail
          go_meet
          exact ⟨_, _, _, rfl, rfl, rfl, (since_put4 (since_put4 (since_put4 hr0 hb0 _ _ _ _) hb1 _ _ _ _) hb2 _ _ _ _), (((gb0.put4 _ _ _ _).stay nq01 (put4_far _ _ _ _ _ _)).stay nq02 (put4_far _ _ _ _ _ _)), (((gb1.stay nq10 (put4_far _ _ _ _ _ _)).put4 _ _ _ _).stay nq12 (put4_far _ _ _ _ _ _)), (((gb2.stay nq20 (put4_far _ _ _ _ _ _)).stay nq21 (put4_far _ _ _ _ _ _)).put4 _ _ _ _)⟩
    · go_simp
      refine hK.out _ _ ?_ (since_alloc _ _) ?_
      · exact hall.out _ (hr0.trans (since_alloc _ _))
      clear hK K
      try simp only [Act.put, List.setIfInBounds_toArray, List.set_cons_zero, List.set_cons_succ]
      have gb2 := Bx.fresh wq1 #[.bool false, .slice none 0 0, .bool false, .slice none 0 0] 31
      have hb2 : w3.heap.size ≤ wq1.heap.size := hr0.size
      have hr0 := hr0.trans (since_alloc wq1 (.cells #[.bool false, .slice none 0 0, .bool false, .slice none 0 0] 31))
      refine Reg.wpG_ready (rs := [6, 7]) (by kernel_rfl) (by simp) (fun wq16 k16' sq16 => ?_)
      have hr0 := hr0.trans k16'
      have gb2 := gb2.since k16'
      refine Reg.AllG.first (o := { dst := some 7, op := Op.alloc 31, type := 0, pos := "law.go:115", after := #[], guard := none }) rfl (by rfl) (fun K hK => ?_) (Reg.AllG.first (o := { dst := some 8, op := Op.alloc 31, type := 0, pos := "law.go:115", after := #[], guard := none }) rfl (by rfl) (fun K hK => ?_) Reg.AllG.nil)
      · go_simp
        refine hK.out _ _ ?_ (since_alloc _ _) ?_
        · exact hall.out _ (hr0.trans (since_alloc _ _))
        clear hK K
        try simp only [Act.put, List.setIfInBounds_toArray, List.set_cons_zero, List.set_cons_succ]
        have nq20 : wq1.heap.size ≠ wq16.heap.size := Nat.ne_of_lt gb2.lt
        have nq02 : wq16.heap.size ≠ wq1.heap.size := Ne.symm nq20
        have gb2 := gb2.since (since_alloc wq16 (.cells #[.bool false, .slice none 0 0, .bool false, .slice none 0 0] 31))
        have gb0 := Bx.fresh wq16 #[.bool false, .slice none 0 0, .bool false, .slice none 0 0] 31
        have hb0 : w3.heap.size ≤ wq16.heap.size := hr0.size
        have hr0 := hr0.trans (since_alloc wq16 (.cells #[.bool false, .slice none 0 0, .bool false, .slice none 0 0] 31))
        refine Reg.wpG_ready (rs := [7]) (by kernel_rfl) (by simp) (fun wq17 k17' sq17 => ?_)
        have hr0 := hr0.trans k17'
        have gb2 := gb2.since k17'
        have gb0 := gb0.since k17'
        refine Reg.AllG.first (o := { dst := some 8, op := Op.alloc 31, type := 0, pos := "law.go:115", after := #[], guard := none }) rfl (by rfl) (fun K hK => ?_) Reg.AllG.nil
        · go_simp
          refine hK.out _ _ ?_ (since_alloc _ _) ?_
          · exact hall.out _ (hr0.trans (since_alloc _ _))
          clear hK K
          try simp only [Act.put, List.setIfInBounds_toArray, List.set_cons_zero, List.set_cons_succ]
          have nq21 : wq1.heap.size ≠ wq17.heap.size := Nat.ne_of_lt gb2.lt
          have nq12 : wq17.heap.size ≠ wq1.heap.size := Ne.symm nq21
          have nq01 : wq16.heap.size ≠ wq17.heap.size := Nat.ne_of_lt gb0.lt
          have nq10 : wq17.heap.size ≠ wq16.heap.size := Ne.symm nq01
          have gb2 := gb2.since (since_alloc wq17 (.cells #[.bool false, .slice none 0 0, .bool false, .slice none 0 0] 31))
          have gb0 := gb0.since (since_alloc wq17 (.cells #[.bool false, .slice none 0 0, .bool false, .slice none 0 0] 31))
          have gb1 := Bx.fresh wq17 #[.bool false, .slice none 0 0, .bool false, .slice none 0 0] 31
          have hb1 : w3.heap.size ≤ wq17.heap.size := hr0.size
          have hr0 := hr0.trans (since_alloc wq17 (.cells #[.bool false, .slice none 0 0, .bool false, .slice none 0 0] 31))
          refine Reg.wpG_ready (rs := [9]) (by kernel_rfl) (by simp) (fun wz19 kz sz => ?_)
          have hr0 := hr0.trans kz
          have gb2 := gb2.since kz
          have gb0 := gb0.since kz
          have gb1 := gb1.since kz
          generalize wq1.heap.size = bq2 at *
          generalize wq16.heap.size = bq0 at *
          generalize wq17.heap.size = bq1 at *
          obtain ⟨gz2a, gz2b, gz2c, gz2d⟩ := gb2.four
          obtain ⟨fz2a, fz2b, fz2c, fz2d⟩ := gb2.four'
          obtain ⟨gz0a, gz0b, gz0c, gz0d⟩ := gb0.four
          obtain ⟨fz0a, fz0b, fz0c, fz0d⟩ := gb0.four'
          obtain ⟨gz1a, gz1b, gz1c, gz1d⟩ := gb1.four
          obtain ⟨fz1a, fz1b, fz1c, fz1d⟩ := gb1.four'
          refine Reg.AllG.last (o := { dst := none, op := Op.store 31 (Operand.tmp 7) (Operand.tmp 39), type := 0, pos := "law.go:115", after := #[{ on := 6, ground := Ground.data }, { on := 1, ground := Ground.data }, { on := 5, ground := Ground.chain }, { on := 0, ground := Ground.phase }, { on := 1, ground := Ground.phase }, { on := 2, ground := Ground.textOnly Departure.lateStores }, { on := 3, ground := Ground.textOnly Departure.lateStoresUnsure }, { on := 4, ground := Ground.textOnly Departure.lateStores }, { on := 5, ground := Ground.textOnly Departure.lateStoresUnsure }, { on := 6, ground := Ground.phase }, { on := 7, ground := Ground.phase }, { on := 8, ground := Ground.phase }], guard := none }) rfl (by rfl) (fun K hK => ?_) Reg.AllG.nil
          go_simp
          refine hK.out _ _ ?_ (fun hHeld => ?_)
          · exact hall.out _ (since_put4 hr0 hb0 _ _ _ _)
          clear hK K
          try simp only [Act.put, List.setIfInBounds_toArray, List.set_cons_zero, List.set_cons_succ]
          refine wpAnyH_ready (rs := [10]) (by kernel_rfl) (by simp) ?_
          refine AllReadyH.cons (o := { dst := none, op := Op.store 31 (Operand.tmp 8) (Operand.tmp 41), type := 0, pos := "law.go:115", after := #[{ on := 7, ground := Ground.data }, { on := 3, ground := Ground.data }, { on := 9, ground := Ground.chain }, { on := 0, ground := Ground.phase }, { on := 1, ground := Ground.phase }, { on := 2, ground := Ground.phase }, { on := 3, ground := Ground.phase }, { on := 4, ground := Ground.textOnly Departure.lateStores }, { on := 5, ground := Ground.textOnly Departure.lateStoresUnsure }, { on := 6, ground := Ground.phase }, { on := 7, ground := Ground.phase }, { on := 8, ground := Ground.phase }, { on := 9, ground := Ground.phase }], guard := none }) rfl (fun K hK => ?_) AllReadyH.nil
          go_simp
          refine hK.out _ _ ?_ (fun hHeld => ?_)
          · exact hall.out _ (since_put4 (since_put4 hr0 hb0 _ _ _ _) hb1 _ _ _ _)
          clear hK K
          try simp only [Act.put, List.setIfInBounds_toArray, List.set_cons_zero, List.set_cons_succ]
          refine wpAnyH_ready (rs := [11]) (by kernel_rfl) (by simp) ?_
          refine AllReadyH.cons (o := { dst := none, op := Op.store 31 (Operand.tmp 9) (Operand.tmp 43), type := 0, pos := "law.go:115", after := #[{ on := 8, ground := Ground.data }, { on := 5, ground := Ground.data }, { on := 10, ground := Ground.chain }, { on := 0, ground := Ground.phase }, { on := 1, ground := Ground.phase }, { on := 2, ground := Ground.phase }, { on := 3, ground := Ground.phase }, { on := 4, ground := Ground.phase }, { on := 5, ground := Ground.phase }, { on := 6, ground := Ground.phase }, { on := 7, ground := Ground.phase }, { on := 8, ground := Ground.phase }, { on := 9, ground := Ground.phase }, { on := 10, ground := Ground.phase }], guard := none }) rfl (fun K hK => ?_) AllReadyH.nil
          go_simp
          refine hK.out _ _ ?_ (fun hHeld => ?_)
          · exact hall.out _ (since_put4 (since_put4 (since_put4 hr0 hb0 _ _ _ _) hb1 _ _ _ _) hb2 _ _ _ _)
          clear hK K
          try simp only [Act.put, List.setIfInBounds_toArray, List.set_cons_zero, List.set_cons_succ]
          refine wpAnyH_done (by kernel_rfl) ?_ _
          refine NoPanic.normal ?_
          go_wp2_with fail
          go_meet
          exact ⟨_, _, _, rfl, rfl, rfl, (since_put4 (since_put4 (since_put4 hr0 hb0 _ _ _ _) hb1 _ _ _ _) hb2 _ _ _ _), (((gb0.put4 _ _ _ _).stay nq01 (put4_far _ _ _ _ _ _)).stay nq02 (put4_far _ _ _ _ _ _)), (((gb1.stay nq10 (put4_far _ _ _ _ _ _)).put4 _ _ _ _).stay nq12 (put4_far _ _ _ _ _ _)), (((gb2.stay nq20 (put4_far _ _ _ _ _ _)).stay nq21 (put4_far _ _ _ _ _ _)).put4 _ _ _ _)⟩
      · go_simp
        refine hK.out _ _ ?_ (since_alloc _ _) ?_
        · exact hall.out _ (hr0.trans (since_alloc _ _))
        clear hK K
        try simp only [Act.put, List.setIfInBounds_toArray, List.set_cons_zero, List.set_cons_succ]
        have nq21 : wq1.heap.size ≠ wq16.heap.size := Nat.ne_of_lt gb2.lt
        have nq12 : wq16.heap.size ≠ wq1.heap.size := Ne.symm nq21
        have gb2 := gb2.since (since_alloc wq16 (.cells #[.bool false, .slice none 0 0, .bool false, .slice none 0 0] 31))
        have gb1 := Bx.fresh wq16 #[.bool false, .slice none 0 0, .bool false, .slice none 0 0] 31
        have hb1 : w3.heap.size ≤ wq16.heap.size := hr0.size
        have hr0 := hr0.trans (since_alloc wq16 (.cells #[.bool false, .slice none 0 0, .bool false, .slice none 0 0] 31))
        refine Reg.wpG_ready (rs := [6]) (by kernel_rfl) (by simp) (fun wq20 k20' sq20 => ?_)
        have hr0 := hr0.trans k20'
        have gb2 := gb2.since k20'
        have gb1 := gb1.since k20'
        refine Reg.AllG.first (o := { dst := some 7, op := Op.alloc 31, type := 0, pos := "law.go:115", after := #[], guard := none }) rfl (by rfl) (fun K hK => ?_) Reg.AllG.nil
        · go_simp
          refine hK.out _ _ ?_ (since_alloc _ _) ?_
          · exact hall.out _ (hr0.trans (since_alloc _ _))
          clear hK K
          try simp only [Act.put, List.setIfInBounds_toArray, List.set_cons_zero, List.set_cons_succ]
          have nq20 : wq1.heap.size ≠ wq20.heap.size := Nat.ne_of_lt gb2.lt
          have nq02 : wq20.heap.size ≠ wq1.heap.size := Ne.symm nq20
          have nq10 : wq16.heap.size ≠ wq20.heap.size := Nat.ne_of_lt gb1.lt
          have nq01 : wq20.heap.size ≠ wq16.heap.size := Ne.symm nq10
          have gb2 := gb2.since (since_alloc wq20 (.cells #[.bool false, .slice none 0 0, .bool false, .slice none 0 0] 31))
          have gb1 := gb1.since (since_alloc wq20 (.cells #[.bool false, .slice none 0 0, .bool false, .slice none 0 0] 31))
          have gb0 := Bx.fresh wq20 #[.bool false, .slice none 0 0, .bool false, .slice none 0 0] 31
          have hb0 : w3.heap.size ≤ wq20.heap.size := hr0.size
          have hr0 := hr0.trans (since_alloc wq20 (.cells #[.bool false, .slice none 0 0, .bool false, .slice none 0 0] 31))
          refine Reg.wpG_ready (rs := [9]) (by kernel_rfl) (by simp) (fun wz22 kz sz => ?_)
          have hr0 := hr0.trans kz
          have gb2 := gb2.since kz
          have gb1 := gb1.since kz
          have gb0 := gb0.since kz
          generalize wq1.heap.size = bq2 at *
          generalize wq16.heap.size = bq1 at *
          generalize wq20.heap.size = bq0 at *
          obtain ⟨gz2a, gz2b, gz2c, gz2d⟩ := gb2.four
          obtain ⟨fz2a, fz2b, fz2c, fz2d⟩ := gb2.four'
          obtain ⟨gz1a, gz1b, gz1c, gz1d⟩ := gb1.four
          obtain ⟨fz1a, fz1b, fz1c, fz1d⟩ := gb1.four'
          obtain ⟨gz0a, gz0b, gz0c, gz0d⟩ := gb0.four
          obtain ⟨fz0a, fz0b, fz0c, fz0d⟩ := gb0.four'
          refine Reg.AllG.last (o := { dst := none, op := Op.store 31 (Operand.tmp 7) (Operand.tmp 39), type := 0, pos := "law.go:115", after := #[{ on := 6, ground := Ground.data }, { on := 1, ground := Ground.data }, { on := 5, ground := Ground.chain }, { on := 0, ground := Ground.phase }, { on := 1, ground := Ground.phase }, { on := 2, ground := Ground.textOnly Departure.lateStores }, { on := 3, ground := Ground.textOnly Departure.lateStoresUnsure }, { on := 4, ground := Ground.textOnly Departure.lateStores }, { on := 5, ground := Ground.textOnly Departure.lateStoresUnsure }, { on := 6, ground := Ground.phase }, { on := 7, ground := Ground.phase }, { on := 8, ground := Ground.phase }], guard := none }) rfl (by rfl) (fun K hK => ?_) Reg.AllG.nil
          go_simp
          refine hK.out _ _ ?_ (fun hHeld => ?_)
          · exact hall.out _ (since_put4 hr0 hb0 _ _ _ _)
          clear hK K
          try simp only [Act.put, List.setIfInBounds_toArray, List.set_cons_zero, List.set_cons_succ]
          refine wpAnyH_ready (rs := [10]) (by kernel_rfl) (by simp) ?_
          refine AllReadyH.cons (o := { dst := none, op := Op.store 31 (Operand.tmp 8) (Operand.tmp 41), type := 0, pos := "law.go:115", after := #[{ on := 7, ground := Ground.data }, { on := 3, ground := Ground.data }, { on := 9, ground := Ground.chain }, { on := 0, ground := Ground.phase }, { on := 1, ground := Ground.phase }, { on := 2, ground := Ground.phase }, { on := 3, ground := Ground.phase }, { on := 4, ground := Ground.textOnly Departure.lateStores }, { on := 5, ground := Ground.textOnly Departure.lateStoresUnsure }, { on := 6, ground := Ground.phase }, { on := 7, ground := Ground.phase }, { on := 8, ground := Ground.phase }, { on := 9, ground := Ground.phase }], guard := none }) rfl (fun K hK => ?_) AllReadyH.nil
          go_simp
          refine hK.out _ _ ?_ (fun hHeld => ?_)
          · exact hall.out _ (since_put4 (since_put4 hr0 hb0 _ _ _ _) hb1 _ _ _ _)
          clear hK K
          try simp only [Act.put, List.setIfInBounds_toArray, List.set_cons_zero, List.set_cons_succ]
          refine wpAnyH_ready (rs := [11]) (by kernel_rfl) (by simp) ?_
          refine AllReadyH.cons (o := { dst := none, op := Op.store 31 (Operand.tmp 9) (Operand.tmp 43), type := 0, pos := "law.go:115", after := #[{ on := 8, ground := Ground.data }, { on := 5, ground := Ground.data }, { on := 10, ground := Ground.chain }, { on := 0, ground := Ground.phase }, { on := 1, ground := Ground.phase }, { on := 2, ground := Ground.phase }, { on := 3, ground := Ground.phase }, { on := 4, ground := Ground.phase }, { on := 5, ground := Ground.phase }, { on := 6, ground := Ground.phase }, { on := 7, ground := Ground.phase }, { on := 8, ground := Ground.phase }, { on := 9, ground := Ground.phase }, { on := 10, ground := Ground.phase }], guard := none }) rfl (fun K hK => ?_) AllReadyH.nil
          go_simp
          refine hK.out _ _ ?_ (fun hHeld => ?_)
          · exact hall.out _ (since_put4 (since_put4 (since_put4 hr0 hb0 _ _ _ _) hb1 _ _ _ _) hb2 _ _ _ _)
          clear hK K
          try simp only [Act.put, List.setIfInBounds_toArray, List.set_cons_zero, List.set_cons_succ]
          refine wpAnyH_done (by kernel_rfl) ?_ _
          refine NoPanic.normal ?_
          go_wp2_with fail
          go_meet
          exact ⟨_, _, _, rfl, rfl, rfl, (since_put4 (since_put4 (since_put4 hr0 hb0 _ _ _ _) hb1 _ _ _ _) hb2 _ _ _ _), (((gb0.put4 _ _ _ _).stay nq01 (put4_far _ _ _ _ _ _)).stay nq02 (put4_far _ _ _ _ _ _)), (((gb1.stay nq10 (put4_far _ _ _ _ _ _)).put4 _ _ _ _).stay nq12 (put4_far _ _ _ _ _ _)), (((gb2.stay nq20 (put4_far _ _ _ _ _ _)).stay nq21 (put4_far _ _ _ _ _ _)).put4 _ _ _ _)⟩
  case rest =>
    obtain ⟨c0, c1, c2, rfl, rfl, rfl, hc, g0, g1, g2⟩ := hcut
    have hS := hS.trans hc
    have V0 : Hid (∀ W', Since wc W' → Bx W' c0 #[.bool b0, .slice a0 p0.length cap0, .bool sg0, .slice ad0 q0.length cp0] 31) := fun W' h => g0.since h
    have V1 : Hid (∀ W', Since wc W' → Bx W' c1 #[.bool b1, .slice a1 p1.length cap1, .bool sg1, .slice ad1 q1.length cp1] 31) := fun W' h => g1.since h
    have V2 : Hid (∀ W', Since wc W' → Bx W' c2 #[.bool b2, .slice a2 p2.length cap2, .bool sg2, .slice ad2 q2.length cp2] 31) := fun W' h => g2.since h
    clear g0 g1 g2 hc hall
    obtain ⟨wv, hwv⟩ : ∃ x, x = wc := ⟨_, rfl⟩
    subst hwv
    go_upto_region 9 with fail
    have hall : Hid (∀ W : World, Since wv W → W.cell? ⟨c0, 0, none⟩ = some (.bool b0) ∧ W.cell? ⟨c0, 1, none⟩ = some (.slice a0 p0.length cap0) ∧ W.cell? ⟨c0, 2, none⟩ = some (.bool sg0) ∧ W.cell? ⟨c0, 3, none⟩ = some (.slice ad0 q0.length cp0) ∧ W.cell? ⟨c1, 0, none⟩ = some (.bool b1) ∧ W.cell? ⟨c1, 1, none⟩ = some (.slice a1 p1.length cap1) ∧ W.cell? ⟨c1, 2, none⟩ = some (.bool sg1) ∧ W.cell? ⟨c1, 3, none⟩ = some (.slice ad1 q1.length cp1) ∧ W.cell? ⟨c2, 0, none⟩ = some (.bool b2) ∧ W.cell? ⟨c2, 1, none⟩ = some (.slice a2 p2.length cap2) ∧ W.cell? ⟨c2, 2, none⟩ = some (.bool sg2) ∧ W.cell? ⟨c2, 3, none⟩ = some (.slice ad2 q2.length cp2)) := fun W h => by
      obtain ⟨v0a, v0b, v0c, v0d⟩ := (V0.out _ h).four
      obtain ⟨v1a, v1b, v1c, v1d⟩ := (V1.out _ h).four
      obtain ⟨v2a, v2b, v2c, v2d⟩ := (V2.out _ h).four
      exact ⟨v0a, v0b, v0c, v0d, v1a, v1b, v1c, v1d, v2a, v2b, v2c, v2d⟩
    have hr0 : Since wv wv.drew := Since.drew (Since.refl wv)
    refine wp_region_noPanic ?_
    refine Reg.wp_region_G (S := fun W => W.cell? ⟨c0, 0, none⟩ = some (.bool b0) ∧ W.cell? ⟨c0, 1, none⟩ = some (.slice a0 p0.length cap0) ∧ W.cell? ⟨c0, 2, none⟩ = some (.bool sg0) ∧ W.cell? ⟨c0, 3, none⟩ = some (.slice ad0 q0.length cp0) ∧ W.cell? ⟨c1, 0, none⟩ = some (.bool b1) ∧ W.cell? ⟨c1, 1, none⟩ = some (.slice a1 p1.length cap1) ∧ W.cell? ⟨c1, 2, none⟩ = some (.bool sg1) ∧ W.cell? ⟨c1, 3, none⟩ = some (.slice ad1 q1.length cp1) ∧ W.cell? ⟨c2, 0, none⟩ = some (.bool b2) ∧ W.cell? ⟨c2, 1, none⟩ = some (.slice a2 p2.length cap2) ∧ W.cell? ⟨c2, 2, none⟩ = some (.bool sg2) ∧ W.cell? ⟨c2, 3, none⟩ = some (.slice ad2 q2.length cp2)) (fun j => [].contains j) (by kernel_rfl) ?_ ?_
    · exact hall.out _ hr0
    refine' Reg.wpG_take (i := 0) (oi := { dst := some 44, op := Op.move (Operand.tmp 12), type := 58, pos := "law.go:119", after := #[], guard := none }) (v := _) [9, 10, 11, 12, 13, 14, 15, 16, 17, 18, 19, 20, 21, 22, 23, 24, 25, 26, 27, 28, 29, 30, 31, 32, 33, 34, 35, 36, 37, 38, 39, 40, 41, 42, 43, 44, 45, 46, 47, 48, 49, 50, 51, 52, 53, 54, 55, 56, 57, 58, 59, 60, 61, 62, 63, 64, 65, 66, 67, 68, 69, 70, 71, 72, 73, 74, 75, 76, 77, 78, 79, 80, 81, 82, 83] [] rfl rfl (by kernel_rfl) (by kernel_rfl) (by kernel_rfl) (by kernel_rfl) (by kernel_rfl) (by kernel_rfl) (by kernel_rfl) (fun _ _ _ h => h) (Or.inl ⟨by rfl, Or.inl ?hy4⟩) ?rest4
    case hy4 => (intro w' kk ss; (try dsimp only at ss); go_simp; first | done | with_reducible rfl)
    try simp only [Act.put, List.setIfInBounds_toArray, List.set_cons_zero, List.set_cons_succ]
    refine' Reg.wpG_take (i := 1) (oi := { dst := some 45, op := Op.move (Operand.tmp 10), type := 56, pos := "law.go:119", after := #[], guard := none }) (v := _) [4, 8, 9, 10, 11, 12, 13, 14, 15, 16, 17, 18, 19, 20, 21, 22, 23, 24, 25, 26, 27, 28, 29, 30, 31, 32, 33, 34, 35, 36, 37, 38, 39, 40, 41, 42, 43, 44, 45, 46, 47, 48, 49, 50, 51, 52, 53, 54, 55, 56, 57, 58, 59, 60, 61, 62, 63, 64, 65, 66, 67, 68, 69, 70, 71, 72, 73, 74, 75, 76, 77, 78, 79, 80, 81, 82, 83] [] rfl rfl (by kernel_rfl) (by kernel_rfl) (by kernel_rfl) (by kernel_rfl) (by kernel_rfl) (by kernel_rfl) (by kernel_rfl) (fun _ _ _ h => h) (Or.inl ⟨by rfl, Or.inl ?hy5⟩) ?rest5
    case hy5 => (intro w' kk ss; (try dsimp only at ss); go_simp; first | done | with_reducible rfl)
    try simp only [Act.put, List.setIfInBounds_toArray, List.set_cons_zero, List.set_cons_succ]
    refine' Reg.wpG_take (i := 2) (oi := { dst := some 46, op := Op.load 31 (Operand.tmp 7), type := 31, pos := "law.go:119", after := #[], guard := none }) (v := _) [4, 8, 9, 10, 11, 12, 13, 14, 15, 16, 17, 18, 19, 20, 21, 22, 23, 24, 25, 26, 27, 28, 29, 30, 31, 32, 33, 34, 35, 36, 37, 38, 39, 40, 41, 42, 43, 44, 45, 46, 47, 48, 49, 50, 51, 52, 53, 54, 55, 56, 57, 58, 59, 60, 61, 62, 63, 64, 65, 66, 67, 68, 69, 70, 71, 72, 73, 74, 75, 76, 77, 78, 79, 80, 81, 82, 83] [] rfl rfl (by kernel_rfl) (by kernel_rfl) (by kernel_rfl) (by kernel_rfl) (by kernel_rfl) (by kernel_rfl) (by kernel_rfl) (fun _ _ _ h => h) (Or.inl ⟨by rfl, Or.inl ?hy6⟩) ?rest6
    case hy6 => (intro w' kk ss; (try dsimp only at ss); go_simp; first | done | with_reducible rfl)
    try simp only [Act.put, List.setIfInBounds_toArray, List.set_cons_zero, List.set_cons_succ]
    refine' Reg.wpG_take (i := 3) (oi := { dst := some 47, op := Op.load 31 (Operand.tmp 8), type := 31, pos := "law.go:119", after := #[], guard := none }) (v := _) [4, 8, 9, 10, 11, 12, 13, 14, 15, 16, 17, 18, 19, 20, 21, 22, 23, 24, 25, 26, 27, 28, 29, 30, 31, 32, 33, 34, 35, 36, 37, 38, 39, 40, 41, 42, 43, 44, 45, 46, 47, 48, 49, 50, 51, 52, 53, 54, 55, 56, 57, 58, 59, 60, 61, 62, 63, 64, 65, 66, 67, 68, 69, 70, 71, 72, 73, 74, 75, 76, 77, 78, 79, 80, 81, 82, 83] [] rfl rfl (by kernel_rfl) (by kernel_rfl) (by kernel_rfl) (by kernel_rfl) (by kernel_rfl) (by kernel_rfl) (by kernel_rfl) (fun _ _ _ h => h) (Or.inl ⟨by rfl, Or.inl ?hy7⟩) ?rest7
    case hy7 => (intro w' kk ss; (try dsimp only at ss); go_simp; first | done | with_reducible rfl)
    try simp only [Act.put, List.setIfInBounds_toArray, List.set_cons_zero, List.set_cons_succ]
    refine' Reg.wpG_take (i := 5) (oi := { dst := some 49, op := Op.move (Operand.tmp 10), type := 56, pos := "law.go:119", after := #[], guard := none }) (v := _) [8, 9, 10, 11, 12, 13, 14, 15, 16, 17, 18, 19, 20, 21, 22, 23, 24, 25, 26, 27, 28, 29, 30, 31, 32, 33, 34, 35, 36, 37, 38, 39, 40, 41, 42, 43, 44, 45, 46, 47, 48, 49, 50, 51, 52, 53, 54, 55, 56, 57, 58, 59, 60, 61, 62, 63, 64, 65, 66, 67, 68, 69, 70, 71, 72, 73, 74, 75, 76, 77, 78, 79, 80, 81, 82, 83] [] rfl rfl (by kernel_rfl) (by kernel_rfl) (by kernel_rfl) (by kernel_rfl) (by kernel_rfl) (by kernel_rfl) (by kernel_rfl) (fun _ _ _ h => h) (Or.inl ⟨by rfl, Or.inl ?hy8⟩) ?rest8
    case hy8 => (intro w' kk ss; (try dsimp only at ss); go_simp; first | done | with_reducible rfl)
    try simp only [Act.put, List.setIfInBounds_toArray, List.set_cons_zero, List.set_cons_succ]
    refine' Reg.wpG_take (i := 6) (oi := { dst := some 50, op := Op.load 31 (Operand.tmp 8), type := 31, pos := "law.go:119", after := #[], guard := none }) (v := _) [8, 9, 10, 11, 12, 13, 14, 15, 16, 17, 18, 19, 20, 21, 22, 23, 24, 25, 26, 27, 28, 29, 30, 31, 32, 33, 34, 35, 36, 37, 38, 39, 40, 41, 42, 43, 44, 45, 46, 47, 48, 49, 50, 51, 52, 53, 54, 55, 56, 57, 58, 59, 60, 61, 62, 63, 64, 65, 66, 67, 68, 69, 70, 71, 72, 73, 74, 75, 76, 77, 78, 79, 80, 81, 82, 83] [] rfl rfl (by kernel_rfl) (by kernel_rfl) (by kernel_rfl) (by kernel_rfl) (by kernel_rfl) (by kernel_rfl) (by kernel_rfl) (fun _ _ _ h => h) (Or.inl ⟨by rfl, Or.inl ?hy9⟩) ?rest9
    case hy9 => (intro w' kk ss; (try dsimp only at ss); go_simp; first | done | with_reducible rfl)
    try simp only [Act.put, List.setIfInBounds_toArray, List.set_cons_zero, List.set_cons_succ]
    refine' Reg.wpG_take (i := 7) (oi := { dst := some 51, op := Op.load 31 (Operand.tmp 7), type := 31, pos := "law.go:119", after := #[], guard := none }) (v := _) [8, 9, 10, 11, 12, 13, 14, 15, 16, 17, 18, 19, 20, 21, 22, 23, 24, 25, 26, 27, 28, 29, 30, 31, 32, 33, 34, 35, 36, 37, 38, 39, 40, 41, 42, 43, 44, 45, 46, 47, 48, 49, 50, 51, 52, 53, 54, 55, 56, 57, 58, 59, 60, 61, 62, 63, 64, 65, 66, 67, 68, 69, 70, 71, 72, 73, 74, 75, 76, 77, 78, 79, 80, 81, 82, 83] [] rfl rfl (by kernel_rfl) (by kernel_rfl) (by kernel_rfl) (by kernel_rfl) (by kernel_rfl) (by kernel_rfl) (by kernel_rfl) (fun _ _ _ h => h) (Or.inl ⟨by rfl, Or.inl ?hy10⟩) ?rest10
    case hy10 => (intro w' kk ss; (try dsimp only at ss); go_simp; first | done | with_reducible rfl)
    try simp only [Act.put, List.setIfInBounds_toArray, List.set_cons_zero, List.set_cons_succ]
    refine Reg.wpG_ready (rs := [4]) (by kernel_rfl) (by simp) (fun wq1 k1' sq1 => ?_)
    have hr0 := hr0.trans k1'
    refine Reg.AllG.first (o := { dst := some 48, op := Op.call { callee := Callee.value (Operand.tmp 45), args := #[Operand.tmp 46, Operand.tmp 47], argTypes := #[31, 31] }, type := 31, pos := "law.go:119", after := #[{ on := 1, ground := Ground.data }, { on := 2, ground := Ground.data }, { on := 3, ground := Ground.data }], guard := none }) rfl (by rfl) (fun K hK => ?_) Reg.AllG.nil
    obtain ⟨o0a, o0b, o0c, o0d, o1a, o1b, o1c, o1d, o2a, o2b, o2c, o2d⟩ := hall.out _ hr0
    go_simp
    (with_reducible refine (Law04.addc_any a0 ad0 a1 ad1 cap0 cp0 cap1 cp1 b0 sg0 b1 sg1 p0 q0 p1 q1 wq1 (P0.out.since (hS0.trans (hS.trans hr0))) (Q0.out.since (hS0.trans (hS.trans hr0))) (P1.out.since (hS0.trans (hS.trans hr0))) (Q1.out.since (hS0.trans (hS.trans hr0))) (by have := FW.out; omega) (by have := FW.out; omega) (by have := FW.out; omega) (by have := FW.out; omega) EA1.out).mono ?_)
    rintro e z101 ⟨X1, x1, Y1, y1, rfl, r1, u1, hx⟩
    refine hK.out _ _ ?_ hx ?_
    · exact hall.out _ (hr0.trans hx)
    clear hK K o0a o0b o0c o0d o1a o1b o1c o1d o2a o2b o2c o2d
    have hr0 := hr0.trans hx
    clear hx
    try simp only [Act.put, List.setIfInBounds_toArray, List.set_cons_zero, List.set_cons_succ]
    as_aux_lemma =>
      refine Reg.wpG_ready (rs := [8]) (by kernel_rfl) (by simp) (fun wq2 k2' sq2 => ?_)
      have hr0 := hr0.trans k2'
      have r1 := r1.since k2'
      have u1 := u1.since k2'
      refine Reg.AllG.first (o := { dst := some 52, op := Op.call { callee := Callee.value (Operand.tmp 49), args := #[Operand.tmp 50, Operand.tmp 51], argTypes := #[31, 31] }, type := 31, pos := "law.go:119", after := #[{ on := 5, ground := Ground.data }, { on := 6, ground := Ground.data }, { on := 7, ground := Ground.data }, { on := 4, ground := Ground.chain }], guard := none }) rfl (by rfl) (fun K hK => ?_) Reg.AllG.nil
      obtain ⟨o0a, o0b, o0c, o0d, o1a, o1b, o1c, o1d, o2a, o2b, o2c, o2d⟩ := hall.out _ hr0
      go_simp
      (with_reducible refine (Law04.addc_any a1 ad1 a0 ad0 cap1 cp1 cap0 cp0 b1 sg1 b0 sg0 p1 q1 p0 q0 wq2 (P1.out.since (hS0.trans (hS.trans hr0))) (Q1.out.since (hS0.trans (hS.trans hr0))) (P0.out.since (hS0.trans (hS.trans hr0))) (Q0.out.since (hS0.trans (hS.trans hr0))) (by have := FW.out; omega) (by have := FW.out; omega) (by have := FW.out; omega) (by have := FW.out; omega) EA2.out).mono ?_)
      rintro e z102 ⟨X2, x2, Y2, y2, rfl, r2, u2, hx⟩
      refine hK.out _ _ ?_ hx ?_
      · exact hall.out _ (hr0.trans hx)
      clear hK K o0a o0b o0c o0d o1a o1b o1c o1d o2a o2b o2c o2d
      have hr0 := hr0.trans hx
      have r1 := r1.since hx
      have u1 := u1.since hx
      clear hx
      try simp only [Act.put, List.setIfInBounds_toArray, List.set_cons_zero, List.set_cons_succ]
      as_aux_lemma =>
        refine Reg.wpG_take (i := 9) (oi := { dst := some 53, op := Op.call { callee := Callee.value (Operand.tmp 44), args := #[Operand.tmp 48, Operand.tmp 52], argTypes := #[31, 31] }, type := 4, pos := "law.go:119", after := #[{ on := 0, ground := Ground.data }, { on := 4, ground := Ground.data }, { on := 8, ground := Ground.data }, { on := 8, ground := Ground.chain }], guard := none }) (v := .bool true) [10, 11, 12, 13, 14, 15, 16, 17, 18, 19, 20, 21, 22, 23, 24, 25, 26, 27, 28, 29, 30, 31, 32, 33, 34, 35, 36, 37, 38, 39, 40, 41, 42, 43, 44, 45, 46, 47, 48, 49, 50, 51, 52, 53, 54, 55, 56, 57, 58, 59, 60, 61, 62, 63, 64, 65, 66, 67, 68, 69, 70, 71, 72, 73, 74, 75, 76, 77, 78, 79, 80, 81, 82, 83] [] rfl rfl (by kernel_rfl) (by kernel_rfl) (by kernel_rfl) (by kernel_rfl) (by kernel_rfl) (by kernel_rfl) (by kernel_rfl) (fun _ _ _ h => h) (Or.inl ⟨by rfl, Or.inr ⟨34, #[.agg #[.bool (nf 1), .slice X1 (sf 1).length x1, .bool (mf 1), .slice Y1 (tf 1).length y1], .agg #[.bool (nf 1), .slice X2 (sf 1).length x2, .bool (mf 1), .slice Y2 (tf 1).length y2]], fun w' kk ss => ⟨?_, ?_⟩⟩⟩) ?_
        · (try dsimp only at ss); go_simp
        · exact (Law04.samec_any X1 Y1 X2 Y2 x1 y1 x2 y2 (nf 1) (mf 1) (sf 1) (tf 1) w' (r1.since kk) (u1.since kk) (r2.since kk) (u2.since kk) (by have := LEN.out 1; omega) (by have := LEN.out 1; omega) (RG.out 1)).mono fun e w'' h => ⟨h.1, h.2, hall.out _ (hr0.trans (kk.trans h.2))⟩
        try simp only [Act.put, List.setIfInBounds_toArray, List.set_cons_zero, List.set_cons_succ]
        refine' Reg.wpG_take (i := 10) (oi := { dst := some 54, op := Op.unOp UnOp.not 4 (Operand.tmp 53), type := 4, pos := "law.go:119", after := #[{ on := 9, ground := Ground.data }], guard := none }) (v := _) [11, 12, 13, 14, 15, 16, 17, 18, 19, 20, 21, 22, 23, 24, 25, 26, 27, 28, 29, 30, 31, 32, 33, 34, 35, 36, 37, 38, 39, 40, 41, 42, 43, 44, 45, 46, 47, 48, 49, 50, 51, 52, 53, 54, 55, 56, 57, 58, 59, 60, 61, 62, 63, 64, 65, 66, 67, 68, 69, 70, 71, 72, 73, 74, 75, 76, 77, 78, 79, 80, 81, 82, 83] [] rfl rfl (by kernel_rfl) (by kernel_rfl) (by kernel_rfl) (by kernel_rfl) (by kernel_rfl) (by kernel_rfl) (by kernel_rfl) (fun _ _ _ h => h) (Or.inl ⟨by rfl, Or.inl ?hy11⟩) ?rest11
        case hy11 => (intro w' kk ss; (try dsimp only at ss); go_simp; first | done | with_reducible rfl)
        try simp only [Act.put, List.setIfInBounds_toArray, List.set_cons_zero, List.set_cons_succ]
        refine' Reg.wpG_take (i := 11) (oi := { dst := some 55, op := Op.move (Operand.tmp 54), type := 4, pos := "law.go:119", after := #[{ on := 10, ground := Ground.data }, { on := 9, ground := Ground.chain }], guard := none }) (v := _) [12, 13, 14, 15, 16, 17, 18, 19, 20, 21, 22, 23, 24, 25, 26, 27, 28, 29, 30, 31, 32, 33, 34, 35, 36, 37, 38, 39, 40, 41, 42, 43, 44, 45, 46, 47, 48, 49, 50, 51, 52, 53, 54, 55, 56, 57, 58, 59, 60, 61, 62, 63, 64, 65, 66, 67, 68, 69, 70, 71, 72, 73, 74, 75, 76, 77, 78, 79, 80, 81, 82, 83] [] rfl rfl (by kernel_rfl) (by kernel_rfl) (by kernel_rfl) (by kernel_rfl) (by kernel_rfl) (by kernel_rfl) (by kernel_rfl) (fun _ _ _ h => h) (Or.inl ⟨by rfl, Or.inl ?hy12⟩) ?rest12
        case hy12 => (intro w' kk ss; (try dsimp only at ss); go_simp; first | done | with_reducible rfl)
        try simp only [Act.put, List.setIfInBounds_toArray, List.set_cons_zero, List.set_cons_succ]
        refine' Reg.wpG_take (i := 12) (oi := { dst := some 56, op := Op.move (Operand.tmp 12), type := 58, pos := "law.go:119", after := #[{ on := 11, ground := Ground.guard }], guard := some (11, false) }) (v := _) [21, 22, 23, 24, 25, 26, 27, 28, 29, 30, 31, 32, 33, 34, 35, 36, 37, 38, 39, 40, 41, 42, 43, 44, 45, 46, 47, 48, 49, 50, 51, 52, 53, 54, 55, 56, 57, 58, 59, 60, 61, 62, 63, 64, 65, 66, 67, 68, 69, 70, 71, 72, 73, 74, 75, 76, 77, 78, 79, 80, 81, 82, 83] [] rfl rfl (by kernel_rfl) (by kernel_rfl) (by kernel_rfl) (by kernel_rfl) (by kernel_rfl) (by kernel_rfl) (by kernel_rfl) (fun _ _ _ h => h) (Or.inl ⟨by rfl, Or.inl ?hy13⟩) ?rest13
        case hy13 => (intro w' kk ss; (try dsimp only at ss); go_simp; first | done | with_reducible rfl)
        try simp only [Act.put, List.setIfInBounds_toArray, List.set_cons_zero, List.set_cons_succ]
        refine' Reg.wpG_take (i := 13) (oi := { dst := some 57, op := Op.move (Operand.tmp 11), type := 56, pos := "law.go:119", after := #[{ on := 11, ground := Ground.guard }], guard := some (11, false) }) (v := _) [16, 20, 21, 22, 23, 24, 25, 26, 27, 28, 29, 30, 31, 32, 33, 34, 35, 36, 37, 38, 39, 40, 41, 42, 43, 44, 45, 46, 47, 48, 49, 50, 51, 52, 53, 54, 55, 56, 57, 58, 59, 60, 61, 62, 63, 64, 65, 66, 67, 68, 69, 70, 71, 72, 73, 74, 75, 76, 77, 78, 79, 80, 81, 82, 83] [] rfl rfl (by kernel_rfl) (by kernel_rfl) (by kernel_rfl) (by kernel_rfl) (by kernel_rfl) (by kernel_rfl) (by kernel_rfl) (fun _ _ _ h => h) (Or.inl ⟨by rfl, Or.inl ?hy14⟩) ?rest14
        case hy14 => (intro w' kk ss; (try dsimp only at ss); go_simp; first | done | with_reducible rfl)
        try simp only [Act.put, List.setIfInBounds_toArray, List.set_cons_zero, List.set_cons_succ]
        refine' Reg.wpG_take (i := 14) (oi := { dst := some 58, op := Op.load 31 (Operand.tmp 7), type := 31, pos := "law.go:119", after := #[{ on := 11, ground := Ground.guard }], guard := some (11, false) }) (v := _) [16, 20, 21, 22, 23, 24, 25, 26, 27, 28, 29, 30, 31, 32, 33, 34, 35, 36, 37, 38, 39, 40, 41, 42, 43, 44, 45, 46, 47, 48, 49, 50, 51, 52, 53, 54, 55, 56, 57, 58, 59, 60, 61, 62, 63, 64, 65, 66, 67, 68, 69, 70, 71, 72, 73, 74, 75, 76, 77, 78, 79, 80, 81, 82, 83] [] rfl rfl (by kernel_rfl) (by kernel_rfl) (by kernel_rfl) (by kernel_rfl) (by kernel_rfl) (by kernel_rfl) (by kernel_rfl) (fun _ _ _ h => h) (Or.inl ⟨by rfl, Or.inl ?hy15⟩) ?rest15
        case hy15 => (intro w' kk ss; (try dsimp only at ss); go_simp; first | done | with_reducible rfl)
        try simp only [Act.put, List.setIfInBounds_toArray, List.set_cons_zero, List.set_cons_succ]
        refine' Reg.wpG_take (i := 15) (oi := { dst := some 59, op := Op.load 31 (Operand.tmp 8), type := 31, pos := "law.go:119", after := #[{ on := 11, ground := Ground.guard }], guard := some (11, false) }) (v := _) [16, 20, 21, 22, 23, 24, 25, 26, 27, 28, 29, 30, 31, 32, 33, 34, 35, 36, 37, 38, 39, 40, 41, 42, 43, 44, 45, 46, 47, 48, 49, 50, 51, 52, 53, 54, 55, 56, 57, 58, 59, 60, 61, 62, 63, 64, 65, 66, 67, 68, 69, 70, 71, 72, 73, 74, 75, 76, 77, 78, 79, 80, 81, 82, 83] [] rfl rfl (by kernel_rfl) (by kernel_rfl) (by kernel_rfl) (by kernel_rfl) (by kernel_rfl) (by kernel_rfl) (by kernel_rfl) (fun _ _ _ h => h) (Or.inl ⟨by rfl, Or.inl ?hy16⟩) ?rest16
        case hy16 => (intro w' kk ss; (try dsimp only at ss); go_simp; first | done | with_reducible rfl)
        try simp only [Act.put, List.setIfInBounds_toArray, List.set_cons_zero, List.set_cons_succ]
        refine' Reg.wpG_take (i := 17) (oi := { dst := some 61, op := Op.move (Operand.tmp 11), type := 56, pos := "law.go:119", after := #[{ on := 11, ground := Ground.guard }], guard := some (11, false) }) (v := _) [20, 21, 22, 23, 24, 25, 26, 27, 28, 29, 30, 31, 32, 33, 34, 35, 36, 37, 38, 39, 40, 41, 42, 43, 44, 45, 46, 47, 48, 49, 50, 51, 52, 53, 54, 55, 56, 57, 58, 59, 60, 61, 62, 63, 64, 65, 66, 67, 68, 69, 70, 71, 72, 73, 74, 75, 76, 77, 78, 79, 80, 81, 82, 83] [] rfl rfl (by kernel_rfl) (by kernel_rfl) (by kernel_rfl) (by kernel_rfl) (by kernel_rfl) (by kernel_rfl) (by kernel_rfl) (fun _ _ _ h => h) (Or.inl ⟨by rfl, Or.inl ?hy17⟩) ?rest17
        case hy17 => (intro w' kk ss; (try dsimp only at ss); go_simp; first | done | with_reducible rfl)
        try simp only [Act.put, List.setIfInBounds_toArray, List.set_cons_zero, List.set_cons_succ]
        refine' Reg.wpG_take (i := 18) (oi := { dst := some 62, op := Op.load 31 (Operand.tmp 8), type := 31, pos := "law.go:119", after := #[{ on := 11, ground := Ground.guard }], guard := some (11, false) }) (v := _) [20, 21, 22, 23, 24, 25, 26, 27, 28, 29, 30, 31, 32, 33, 34, 35, 36, 37, 38, 39, 40, 41, 42, 43, 44, 45, 46, 47, 48, 49, 50, 51, 52, 53, 54, 55, 56, 57, 58, 59, 60, 61, 62, 63, 64, 65, 66, 67, 68, 69, 70, 71, 72, 73, 74, 75, 76, 77, 78, 79, 80, 81, 82, 83] [] rfl rfl (by kernel_rfl) (by kernel_rfl) (by kernel_rfl) (by kernel_rfl) (by kernel_rfl) (by kernel_rfl) (by kernel_rfl) (fun _ _ _ h => h) (Or.inl ⟨by rfl, Or.inl ?hy18⟩) ?rest18
        case hy18 => (intro w' kk ss; (try dsimp only at ss); go_simp; first | done | with_reducible rfl)
        try simp only [Act.put, List.setIfInBounds_toArray, List.set_cons_zero, List.set_cons_succ]
        refine' Reg.wpG_take (i := 19) (oi := { dst := some 63, op := Op.load 31 (Operand.tmp 7), type := 31, pos := "law.go:119", after := #[{ on := 11, ground := Ground.guard }], guard := some (11, false) }) (v := _) [20, 21, 22, 23, 24, 25, 26, 27, 28, 29, 30, 31, 32, 33, 34, 35, 36, 37, 38, 39, 40, 41, 42, 43, 44, 45, 46, 47, 48, 49, 50, 51, 52, 53, 54, 55, 56, 57, 58, 59, 60, 61, 62, 63, 64, 65, 66, 67, 68, 69, 70, 71, 72, 73, 74, 75, 76, 77, 78, 79, 80, 81, 82, 83] [] rfl rfl (by kernel_rfl) (by kernel_rfl) (by kernel_rfl) (by kernel_rfl) (by kernel_rfl) (by kernel_rfl) (by kernel_rfl) (fun _ _ _ h => h) (Or.inl ⟨by rfl, Or.inl ?hy19⟩) ?rest19
        case hy19 => (intro w' kk ss; (try dsimp only at ss); go_simp; first | done | with_reducible rfl)
        try simp only [Act.put, List.setIfInBounds_toArray, List.set_cons_zero, List.set_cons_succ]
        refine Reg.wpG_ready (rs := [16]) (by kernel_rfl) (by simp) (fun wq3 k3' sq3 => ?_)
        have hr0 := hr0.trans k3'
        refine Reg.AllG.first (o := { dst := some 60, op := Op.call { callee := Callee.value (Operand.tmp 57), args := #[Operand.tmp 58, Operand.tmp 59], argTypes := #[31, 31] }, type := 31, pos := "law.go:119", after := #[{ on := 13, ground := Ground.data }, { on := 14, ground := Ground.data }, { on := 15, ground := Ground.data }, { on := 11, ground := Ground.chain }, { on := 11, ground := Ground.guard }], guard := some (11, false) }) rfl (by rfl) (fun K hK => ?_) Reg.AllG.nil
        obtain ⟨o0a, o0b, o0c, o0d, o1a, o1b, o1c, o1d, o2a, o2b, o2c, o2d⟩ := hall.out _ hr0
        go_simp
        (with_reducible refine (Law04.mulc_any a0 ad0 a1 ad1 cap0 cp0 cap1 cp1 b0 sg0 b1 sg1 p0 q0 p1 q1 wq3 (P0.out.since (hS0.trans (hS.trans hr0))) (Q0.out.since (hS0.trans (hS.trans hr0))) (P1.out.since (hS0.trans (hS.trans hr0))) (Q1.out.since (hS0.trans (hS.trans hr0))) (by have := FW.out; omega) (by have := FW.out; omega) (by have := FW.out; omega) (by have := FW.out; omega) EM1.out).mono ?_)
        rintro e z103 ⟨X3, x3, Y3, y3, rfl, r3, u3, hx⟩
        refine hK.out _ _ ?_ hx ?_
        · exact hall.out _ (hr0.trans hx)
        clear hK K o0a o0b o0c o0d o1a o1b o1c o1d o2a o2b o2c o2d
        have hr0 := hr0.trans hx
        clear hx
        try simp only [Act.put, List.setIfInBounds_toArray, List.set_cons_zero, List.set_cons_succ]
        as_aux_lemma =>
          refine Reg.wpG_ready (rs := [20]) (by kernel_rfl) (by simp) (fun wq4 k4' sq4 => ?_)
          have hr0 := hr0.trans k4'
          have r3 := r3.since k4'
          have u3 := u3.since k4'
          refine Reg.AllG.first (o := { dst := some 64, op := Op.call { callee := Callee.value (Operand.tmp 61), args := #[Operand.tmp 62, Operand.tmp 63], argTypes := #[31, 31] }, type := 31, pos := "law.go:119", after := #[{ on := 17, ground := Ground.data }, { on := 18, ground := Ground.data }, { on := 19, ground := Ground.data }, { on := 16, ground := Ground.chain }, { on := 11, ground := Ground.guard }], guard := some (11, false) }) rfl (by rfl) (fun K hK => ?_) Reg.AllG.nil
          obtain ⟨o0a, o0b, o0c, o0d, o1a, o1b, o1c, o1d, o2a, o2b, o2c, o2d⟩ := hall.out _ hr0
          go_simp
          (with_reducible refine (Law04.mulc_any a1 ad1 a0 ad0 cap1 cp1 cap0 cp0 b1 sg1 b0 sg0 p1 q1 p0 q0 wq4 (P1.out.since (hS0.trans (hS.trans hr0))) (Q1.out.since (hS0.trans (hS.trans hr0))) (P0.out.since (hS0.trans (hS.trans hr0))) (Q0.out.since (hS0.trans (hS.trans hr0))) (by have := FW.out; omega) (by have := FW.out; omega) (by have := FW.out; omega) (by have := FW.out; omega) EM2.out).mono ?_)
          rintro e z104 ⟨X4, x4, Y4, y4, rfl, r4, u4, hx⟩
          refine hK.out _ _ ?_ hx ?_
          · exact hall.out _ (hr0.trans hx)
          clear hK K o0a o0b o0c o0d o1a o1b o1c o1d o2a o2b o2c o2d
          have hr0 := hr0.trans hx
          have r3 := r3.since hx
          have u3 := u3.since hx
          clear hx
          try simp only [Act.put, List.setIfInBounds_toArray, List.set_cons_zero, List.set_cons_succ]
          as_aux_lemma =>
            refine Reg.wpG_take (i := 21) (oi := { dst := some 65, op := Op.call { callee := Callee.value (Operand.tmp 56), args := #[Operand.tmp 60, Operand.tmp 64], argTypes := #[31, 31] }, type := 4, pos := "law.go:119", after := #[{ on := 12, ground := Ground.data }, { on := 16, ground := Ground.data }, { on := 20, ground := Ground.data }, { on := 20, ground := Ground.chain }, { on := 11, ground := Ground.guard }], guard := some (11, false) }) (v := .bool true) [22, 23, 24, 25, 26, 27, 28, 29, 30, 31, 32, 33, 34, 35, 36, 37, 38, 39, 40, 41, 42, 43, 44, 45, 46, 47, 48, 49, 50, 51, 52, 53, 54, 55, 56, 57, 58, 59, 60, 61, 62, 63, 64, 65, 66, 67, 68, 69, 70, 71, 72, 73, 74, 75, 76, 77, 78, 79, 80, 81, 82, 83] [] rfl rfl (by kernel_rfl) (by kernel_rfl) (by kernel_rfl) (by kernel_rfl) (by kernel_rfl) (by kernel_rfl) (by kernel_rfl) (fun _ _ _ h => h) (Or.inl ⟨by rfl, Or.inr ⟨34, #[.agg #[.bool (nf 2), .slice X3 (sf 2).length x3, .bool (mf 2), .slice Y3 (tf 2).length y3], .agg #[.bool (nf 2), .slice X4 (sf 2).length x4, .bool (mf 2), .slice Y4 (tf 2).length y4]], fun w' kk ss => ⟨?_, ?_⟩⟩⟩) ?_
            · (try dsimp only at ss); go_simp
            · exact (Law04.samec_any X3 Y3 X4 Y4 x3 y3 x4 y4 (nf 2) (mf 2) (sf 2) (tf 2) w' (r3.since kk) (u3.since kk) (r4.since kk) (u4.since kk) (by have := LEN.out 2; omega) (by have := LEN.out 2; omega) (RG.out 2)).mono fun e w'' h => ⟨h.1, h.2, hall.out _ (hr0.trans (kk.trans h.2))⟩
            try simp only [Act.put, List.setIfInBounds_toArray, List.set_cons_zero, List.set_cons_succ]
            refine' Reg.wpG_take (i := 22) (oi := { dst := some 66, op := Op.unOp UnOp.not 4 (Operand.tmp 65), type := 4, pos := "law.go:119", after := #[{ on := 21, ground := Ground.data }, { on := 11, ground := Ground.guard }], guard := some (11, false) }) (v := _) [23, 24, 25, 26, 27, 28, 29, 30, 31, 32, 33, 34, 35, 36, 37, 38, 39, 40, 41, 42, 43, 44, 45, 46, 47, 48, 49, 50, 51, 52, 53, 54, 55, 56, 57, 58, 59, 60, 61, 62, 63, 64, 65, 66, 67, 68, 69, 70, 71, 72, 73, 74, 75, 76, 77, 78, 79, 80, 81, 82, 83] [] rfl rfl (by kernel_rfl) (by kernel_rfl) (by kernel_rfl) (by kernel_rfl) (by kernel_rfl) (by kernel_rfl) (by kernel_rfl) (fun _ _ _ h => h) (Or.inl ⟨by rfl, Or.inl ?hy20⟩) ?rest20
            case hy20 => (intro w' kk ss; (try dsimp only at ss); go_simp; first | done | with_reducible rfl)
            try simp only [Act.put, List.setIfInBounds_toArray, List.set_cons_zero, List.set_cons_succ]
            refine' Reg.wpG_take (i := 23) (oi := { dst := some 67, op := Op.pick (Operand.tmp 55) (Operand.const (Value.bool true)) (Operand.tmp 66), type := 4, pos := "law.go:119", after := #[{ on := 11, ground := Ground.data }, { on := 22, ground := Ground.data }], guard := none }) (v := _) [24, 25, 26, 27, 28, 29, 30, 31, 32, 33, 34, 35, 36, 37, 38, 39, 40, 41, 42, 43, 44, 45, 46, 47, 48, 49, 50, 51, 52, 53, 54, 55, 56, 57, 58, 59, 60, 61, 62, 63, 64, 65, 66, 67, 68, 69, 70, 71, 72, 73, 74, 75, 76, 77, 78, 79, 80, 81, 82, 83] [] rfl rfl (by kernel_rfl) (by kernel_rfl) (by kernel_rfl) (by kernel_rfl) (by kernel_rfl) (by kernel_rfl) (by kernel_rfl) (fun _ _ _ h => h) (Or.inl ⟨by rfl, Or.inl ?hy21⟩) ?rest21
            case hy21 => (intro w' kk ss; (try dsimp only at ss); go_simp; first | done | with_reducible rfl)
            try simp only [Act.put, List.setIfInBounds_toArray, List.set_cons_zero, List.set_cons_succ]
            refine' Reg.wpG_take (i := 24) (oi := { dst := some 68, op := Op.move (Operand.tmp 67), type := 4, pos := "law.go:119", after := #[{ on := 23, ground := Ground.data }, { on := 21, ground := Ground.chain }], guard := none }) (v := _) [25, 26, 27, 28, 29, 30, 31, 32, 33, 34, 35, 36, 37, 38, 39, 40, 41, 42, 43, 44, 45, 46, 47, 48, 49, 50, 51, 52, 53, 54, 55, 56, 57, 58, 59, 60, 61, 62, 63, 64, 65, 66, 67, 68, 69, 70, 71, 72, 73, 74, 75, 76, 77, 78, 79, 80, 81, 82, 83] [] rfl rfl (by kernel_rfl) (by kernel_rfl) (by kernel_rfl) (by kernel_rfl) (by kernel_rfl) (by kernel_rfl) (by kernel_rfl) (fun _ _ _ h => h) (Or.inl ⟨by rfl, Or.inl ?hy22⟩) ?rest22
            case hy22 => (intro w' kk ss; (try dsimp only at ss); go_simp; first | done | with_reducible rfl)
            try simp only [Act.put, List.setIfInBounds_toArray, List.set_cons_zero, List.set_cons_succ]
            refine' Reg.wpG_take (i := 25) (oi := { dst := some 69, op := Op.move (Operand.tmp 12), type := 58, pos := "law.go:119", after := #[{ on := 24, ground := Ground.guard }], guard := some (24, false) }) (v := _) [40, 41, 42, 43, 44, 45, 46, 47, 48, 49, 50, 51, 52, 53, 54, 55, 56, 57, 58, 59, 60, 61, 62, 63, 64, 65, 66, 67, 68, 69, 70, 71, 72, 73, 74, 75, 76, 77, 78, 79, 80, 81, 82, 83] [] rfl rfl (by kernel_rfl) (by kernel_rfl) (by kernel_rfl) (by kernel_rfl) (by kernel_rfl) (by kernel_rfl) (by kernel_rfl) (fun _ _ _ h => h) (Or.inl ⟨by rfl, Or.inl ?hy23⟩) ?rest23
            case hy23 => (intro w' kk ss; (try dsimp only at ss); go_simp; first | done | with_reducible rfl)
            try simp only [Act.put, List.setIfInBounds_toArray, List.set_cons_zero, List.set_cons_succ]
            refine' Reg.wpG_take (i := 26) (oi := { dst := some 70, op := Op.move (Operand.tmp 10), type := 56, pos := "law.go:119", after := #[{ on := 24, ground := Ground.guard }], guard := some (24, false) }) (v := _) [32, 38, 39, 40, 41, 42, 43, 44, 45, 46, 47, 48, 49, 50, 51, 52, 53, 54, 55, 56, 57, 58, 59, 60, 61, 62, 63, 64, 65, 66, 67, 68, 69, 70, 71, 72, 73, 74, 75, 76, 77, 78, 79, 80, 81, 82, 83] [] rfl rfl (by kernel_rfl) (by kernel_rfl) (by kernel_rfl) (by kernel_rfl) (by kernel_rfl) (by kernel_rfl) (by kernel_rfl) (fun _ _ _ h => h) (Or.inl ⟨by rfl, Or.inl ?hy24⟩) ?rest24
            case hy24 => (intro w' kk ss; (try dsimp only at ss); go_simp; first | done | with_reducible rfl)
            try simp only [Act.put, List.setIfInBounds_toArray, List.set_cons_zero, List.set_cons_succ]
            refine' Reg.wpG_take (i := 27) (oi := { dst := some 71, op := Op.move (Operand.tmp 10), type := 56, pos := "law.go:119", after := #[{ on := 24, ground := Ground.guard }], guard := some (24, false) }) (v := _) [30, 32, 38, 39, 40, 41, 42, 43, 44, 45, 46, 47, 48, 49, 50, 51, 52, 53, 54, 55, 56, 57, 58, 59, 60, 61, 62, 63, 64, 65, 66, 67, 68, 69, 70, 71, 72, 73, 74, 75, 76, 77, 78, 79, 80, 81, 82, 83] [] rfl rfl (by kernel_rfl) (by kernel_rfl) (by kernel_rfl) (by kernel_rfl) (by kernel_rfl) (by kernel_rfl) (by kernel_rfl) (fun _ _ _ h => h) (Or.inl ⟨by rfl, Or.inl ?hy25⟩) ?rest25
            case hy25 => (intro w' kk ss; (try dsimp only at ss); go_simp; first | done | with_reducible rfl)
            try simp only [Act.put, List.setIfInBounds_toArray, List.set_cons_zero, List.set_cons_succ]
            refine' Reg.wpG_take (i := 28) (oi := { dst := some 72, op := Op.load 31 (Operand.tmp 7), type := 31, pos := "law.go:119", after := #[{ on := 24, ground := Ground.guard }], guard := some (24, false) }) (v := _) [30, 32, 38, 39, 40, 41, 42, 43, 44, 45, 46, 47, 48, 49, 50, 51, 52, 53, 54, 55, 56, 57, 58, 59, 60, 61, 62, 63, 64, 65, 66, 67, 68, 69, 70, 71, 72, 73, 74, 75, 76, 77, 78, 79, 80, 81, 82, 83] [] rfl rfl (by kernel_rfl) (by kernel_rfl) (by kernel_rfl) (by kernel_rfl) (by kernel_rfl) (by kernel_rfl) (by kernel_rfl) (fun _ _ _ h => h) (Or.inl ⟨by rfl, Or.inl ?hy26⟩) ?rest26
            case hy26 => (intro w' kk ss; (try dsimp only at ss); go_simp; first | done | with_reducible rfl)
            try simp only [Act.put, List.setIfInBounds_toArray, List.set_cons_zero, List.set_cons_succ]
            refine' Reg.wpG_take (i := 29) (oi := { dst := some 73, op := Op.load 31 (Operand.tmp 8), type := 31, pos := "law.go:119", after := #[{ on := 24, ground := Ground.guard }], guard := some (24, false) }) (v := _) [30, 32, 38, 39, 40, 41, 42, 43, 44, 45, 46, 47, 48, 49, 50, 51, 52, 53, 54, 55, 56, 57, 58, 59, 60, 61, 62, 63, 64, 65, 66, 67, 68, 69, 70, 71, 72, 73, 74, 75, 76, 77, 78, 79, 80, 81, 82, 83] [] rfl rfl (by kernel_rfl) (by kernel_rfl) (by kernel_rfl) (by kernel_rfl) (by kernel_rfl) (by kernel_rfl) (by kernel_rfl) (fun _ _ _ h => h) (Or.inl ⟨by rfl, Or.inl ?hy27⟩) ?rest27
            case hy27 => (intro w' kk ss; (try dsimp only at ss); go_simp; first | done | with_reducible rfl)
            try simp only [Act.put, List.setIfInBounds_toArray, List.set_cons_zero, List.set_cons_succ]
            refine' Reg.wpG_take (i := 31) (oi := { dst := some 75, op := Op.load 31 (Operand.tmp 9), type := 31, pos := "law.go:119", after := #[{ on := 24, ground := Ground.guard }], guard := some (24, false) }) (v := _) [32, 38, 39, 40, 41, 42, 43, 44, 45, 46, 47, 48, 49, 50, 51, 52, 53, 54, 55, 56, 57, 58, 59, 60, 61, 62, 63, 64, 65, 66, 67, 68, 69, 70, 71, 72, 73, 74, 75, 76, 77, 78, 79, 80, 81, 82, 83] [] rfl rfl (by kernel_rfl) (by kernel_rfl) (by kernel_rfl) (by kernel_rfl) (by kernel_rfl) (by kernel_rfl) (by kernel_rfl) (fun _ _ _ h => h) (Or.inl ⟨by rfl, Or.inl ?hy28⟩) ?rest28
            case hy28 => (intro w' kk ss; (try dsimp only at ss); go_simp; first | done | with_reducible rfl)
            try simp only [Act.put, List.setIfInBounds_toArray, List.set_cons_zero, List.set_cons_succ]
            refine' Reg.wpG_take (i := 33) (oi := { dst := some 77, op := Op.move (Operand.tmp 10), type := 56, pos := "law.go:119", after := #[{ on := 24, ground := Ground.guard }], guard := some (24, false) }) (v := _) [39, 40, 41, 42, 43, 44, 45, 46, 47, 48, 49, 50, 51, 52, 53, 54, 55, 56, 57, 58, 59, 60, 61, 62, 63, 64, 65, 66, 67, 68, 69, 70, 71, 72, 73, 74, 75, 76, 77, 78, 79, 80, 81, 82, 83] [] rfl rfl (by kernel_rfl) (by kernel_rfl) (by kernel_rfl) (by kernel_rfl) (by kernel_rfl) (by kernel_rfl) (by kernel_rfl) (fun _ _ _ h => h) (Or.inl ⟨by rfl, Or.inl ?hy29⟩) ?rest29
            case hy29 => (intro w' kk ss; (try dsimp only at ss); go_simp; first | done | with_reducible rfl)
            try simp only [Act.put, List.setIfInBounds_toArray, List.set_cons_zero, List.set_cons_succ]
            refine' Reg.wpG_take (i := 34) (oi := { dst := some 78, op := Op.load 31 (Operand.tmp 7), type := 31, pos := "law.go:119", after := #[{ on := 24, ground := Ground.guard }], guard := some (24, false) }) (v := _) [39, 40, 41, 42, 43, 44, 45, 46, 47, 48, 49, 50, 51, 52, 53, 54, 55, 56, 57, 58, 59, 60, 61, 62, 63, 64, 65, 66, 67, 68, 69, 70, 71, 72, 73, 74, 75, 76, 77, 78, 79, 80, 81, 82, 83] [] rfl rfl (by kernel_rfl) (by kernel_rfl) (by kernel_rfl) (by kernel_rfl) (by kernel_rfl) (by kernel_rfl) (by kernel_rfl) (fun _ _ _ h => h) (Or.inl ⟨by rfl, Or.inl ?hy30⟩) ?rest30
            case hy30 => (intro w' kk ss; (try dsimp only at ss); go_simp; first | done | with_reducible rfl)
            try simp only [Act.put, List.setIfInBounds_toArray, List.set_cons_zero, List.set_cons_succ]
            refine' Reg.wpG_take (i := 35) (oi := { dst := some 79, op := Op.move (Operand.tmp 10), type := 56, pos := "law.go:119", after := #[{ on := 24, ground := Ground.guard }], guard := some (24, false) }) (v := _) [38, 39, 40, 41, 42, 43, 44, 45, 46, 47, 48, 49, 50, 51, 52, 53, 54, 55, 56, 57, 58, 59, 60, 61, 62, 63, 64, 65, 66, 67, 68, 69, 70, 71, 72, 73, 74, 75, 76, 77, 78, 79, 80, 81, 82, 83] [] rfl rfl (by kernel_rfl) (by kernel_rfl) (by kernel_rfl) (by kernel_rfl) (by kernel_rfl) (by kernel_rfl) (by kernel_rfl) (fun _ _ _ h => h) (Or.inl ⟨by rfl, Or.inl ?hy31⟩) ?rest31
            case hy31 => (intro w' kk ss; (try dsimp only at ss); go_simp; first | done | with_reducible rfl)
            try simp only [Act.put, List.setIfInBounds_toArray, List.set_cons_zero, List.set_cons_succ]
            refine' Reg.wpG_take (i := 36) (oi := { dst := some 80, op := Op.load 31 (Operand.tmp 8), type := 31, pos := "law.go:119", after := #[{ on := 24, ground := Ground.guard }], guard := some (24, false) }) (v := _) [38, 39, 40, 41, 42, 43, 44, 45, 46, 47, 48, 49, 50, 51, 52, 53, 54, 55, 56, 57, 58, 59, 60, 61, 62, 63, 64, 65, 66, 67, 68, 69, 70, 71, 72, 73, 74, 75, 76, 77, 78, 79, 80, 81, 82, 83] [] rfl rfl (by kernel_rfl) (by kernel_rfl) (by kernel_rfl) (by kernel_rfl) (by kernel_rfl) (by kernel_rfl) (by kernel_rfl) (fun _ _ _ h => h) (Or.inl ⟨by rfl, Or.inl ?hy32⟩) ?rest32
            case hy32 => (intro w' kk ss; (try dsimp only at ss); go_simp; first | done | with_reducible rfl)
            try simp only [Act.put, List.setIfInBounds_toArray, List.set_cons_zero, List.set_cons_succ]
            refine' Reg.wpG_take (i := 37) (oi := { dst := some 81, op := Op.load 31 (Operand.tmp 9), type := 31, pos := "law.go:119", after := #[{ on := 24, ground := Ground.guard }], guard := some (24, false) }) (v := _) [38, 39, 40, 41, 42, 43, 44, 45, 46, 47, 48, 49, 50, 51, 52, 53, 54, 55, 56, 57, 58, 59, 60, 61, 62, 63, 64, 65, 66, 67, 68, 69, 70, 71, 72, 73, 74, 75, 76, 77, 78, 79, 80, 81, 82, 83] [] rfl rfl (by kernel_rfl) (by kernel_rfl) (by kernel_rfl) (by kernel_rfl) (by kernel_rfl) (by kernel_rfl) (by kernel_rfl) (fun _ _ _ h => h) (Or.inl ⟨by rfl, Or.inl ?hy33⟩) ?rest33
            case hy33 => (intro w' kk ss; (try dsimp only at ss); go_simp; first | done | with_reducible rfl)
            try simp only [Act.put, List.setIfInBounds_toArray, List.set_cons_zero, List.set_cons_succ]
            refine Reg.wpG_ready (rs := [30]) (by kernel_rfl) (by simp) (fun wq5 k5' sq5 => ?_)
            have hr0 := hr0.trans k5'
            refine Reg.AllG.first (o := { dst := some 74, op := Op.call { callee := Callee.value (Operand.tmp 71), args := #[Operand.tmp 72, Operand.tmp 73], argTypes := #[31, 31] }, type := 31, pos := "law.go:119", after := #[{ on := 27, ground := Ground.data }, { on := 28, ground := Ground.data }, { on := 29, ground := Ground.data }, { on := 24, ground := Ground.chain }, { on := 24, ground := Ground.guard }], guard := some (24, false) }) rfl (by rfl) (fun K hK => ?_) Reg.AllG.nil
            obtain ⟨o0a, o0b, o0c, o0d, o1a, o1b, o1c, o1d, o2a, o2b, o2c, o2d⟩ := hall.out _ hr0
            go_simp
            (with_reducible refine (Law04.addc_any a0 ad0 a1 ad1 cap0 cp0 cap1 cp1 b0 sg0 b1 sg1 p0 q0 p1 q1 wq5 (P0.out.since (hS0.trans (hS.trans hr0))) (Q0.out.since (hS0.trans (hS.trans hr0))) (P1.out.since (hS0.trans (hS.trans hr0))) (Q1.out.since (hS0.trans (hS.trans hr0))) (by have := FW.out; omega) (by have := FW.out; omega) (by have := FW.out; omega) (by have := FW.out; omega) EA1.out).mono ?_)
            rintro e z105 ⟨X5, x5, Y5, y5, rfl, r5, u5, hx⟩
            refine hK.out _ _ ?_ hx ?_
            · exact hall.out _ (hr0.trans hx)
            clear hK K o0a o0b o0c o0d o1a o1b o1c o1d o2a o2b o2c o2d
            have hr0 := hr0.trans hx
            clear hx
            try simp only [Act.put, List.setIfInBounds_toArray, List.set_cons_zero, List.set_cons_succ]
            as_aux_lemma =>
              refine Reg.wpG_ready (rs := [32]) (by kernel_rfl) (by simp) (fun wq6 k6' sq6 => ?_)
              have hr0 := hr0.trans k6'
              have r5 := r5.since k6'
              have u5 := u5.since k6'
              refine Reg.AllG.first (o := { dst := some 76, op := Op.call { callee := Callee.value (Operand.tmp 70), args := #[Operand.tmp 74, Operand.tmp 75], argTypes := #[31, 31] }, type := 31, pos := "law.go:119", after := #[{ on := 26, ground := Ground.data }, { on := 30, ground := Ground.data }, { on := 31, ground := Ground.data }, { on := 30, ground := Ground.chain }, { on := 24, ground := Ground.guard }], guard := some (24, false) }) rfl (by rfl) (fun K hK => ?_) Reg.AllG.nil
              obtain ⟨o0a, o0b, o0c, o0d, o1a, o1b, o1c, o1d, o2a, o2b, o2c, o2d⟩ := hall.out _ hr0
              go_simp
              (with_reducible refine (Law04.addc_any X5 Y5 a2 ad2 x5 y5 cap2 cp2 (nf 1) (mf 1) b2 sg2 (sf 1) (tf 1) p2 q2 wq6 (r5) (u5) (P2.out.since (hS0.trans (hS.trans hr0))) (Q2.out.since (hS0.trans (hS.trans hr0))) (by have := LEN.out 1; omega) (by have := LEN.out 1; omega) (by have := FW.out; omega) (by have := FW.out; omega) EA3.out).mono ?_)
              rintro e z106 ⟨X6, x6, Y6, y6, rfl, r6, u6, hx⟩
              refine hK.out _ _ ?_ hx ?_
              · exact hall.out _ (hr0.trans hx)
              clear hK K o0a o0b o0c o0d o1a o1b o1c o1d o2a o2b o2c o2d
              have hr0 := hr0.trans hx
              have r5 := r5.since hx
              have u5 := u5.since hx
              clear hx
              try simp only [Act.put, List.setIfInBounds_toArray, List.set_cons_zero, List.set_cons_succ]
              as_aux_lemma =>
                refine Reg.wpG_ready (rs := [38]) (by kernel_rfl) (by simp) (fun wq7 k7' sq7 => ?_)
                have hr0 := hr0.trans k7'
                have r5 := r5.since k7'
                have u5 := u5.since k7'
                have r6 := r6.since k7'
                have u6 := u6.since k7'
                refine Reg.AllG.first (o := { dst := some 82, op := Op.call { callee := Callee.value (Operand.tmp 79), args := #[Operand.tmp 80, Operand.tmp 81], argTypes := #[31, 31] }, type := 31, pos := "law.go:119", after := #[{ on := 35, ground := Ground.data }, { on := 36, ground := Ground.data }, { on := 37, ground := Ground.data }, { on := 32, ground := Ground.chain }, { on := 24, ground := Ground.guard }], guard := some (24, false) }) rfl (by rfl) (fun K hK => ?_) Reg.AllG.nil
                obtain ⟨o0a, o0b, o0c, o0d, o1a, o1b, o1c, o1d, o2a, o2b, o2c, o2d⟩ := hall.out _ hr0
                go_simp
                (with_reducible refine (Law04.addc_any a1 ad1 a2 ad2 cap1 cp1 cap2 cp2 b1 sg1 b2 sg2 p1 q1 p2 q2 wq7 (P1.out.since (hS0.trans (hS.trans hr0))) (Q1.out.since (hS0.trans (hS.trans hr0))) (P2.out.since (hS0.trans (hS.trans hr0))) (Q2.out.since (hS0.trans (hS.trans hr0))) (by have := FW.out; omega) (by have := FW.out; omega) (by have := FW.out; omega) (by have := FW.out; omega) EA4.out).mono ?_)
                rintro e z107 ⟨X7, x7, Y7, y7, rfl, r7, u7, hx⟩
                refine hK.out _ _ ?_ hx ?_
                · exact hall.out _ (hr0.trans hx)
                clear hK K o0a o0b o0c o0d o1a o1b o1c o1d o2a o2b o2c o2d
                have hr0 := hr0.trans hx
                have r5 := r5.since hx
                have u5 := u5.since hx
                have r6 := r6.since hx
                have u6 := u6.since hx
                clear hx
                try simp only [Act.put, List.setIfInBounds_toArray, List.set_cons_zero, List.set_cons_succ]
                as_aux_lemma =>
                  refine Reg.wpG_ready (rs := [39]) (by kernel_rfl) (by simp) (fun wq8 k8' sq8 => ?_)
                  have hr0 := hr0.trans k8'
                  have r5 := r5.since k8'
                  have u5 := u5.since k8'
                  have r6 := r6.since k8'
                  have u6 := u6.since k8'
                  have r7 := r7.since k8'
                  have u7 := u7.since k8'
                  refine Reg.AllG.first (o := { dst := some 83, op := Op.call { callee := Callee.value (Operand.tmp 77), args := #[Operand.tmp 78, Operand.tmp 82], argTypes := #[31, 31] }, type := 31, pos := "law.go:119", after := #[{ on := 33, ground := Ground.data }, { on := 34, ground := Ground.data }, { on := 38, ground := Ground.data }, { on := 38, ground := Ground.chain }, { on := 24, ground := Ground.guard }], guard := some (24, false) }) rfl (by rfl) (fun K hK => ?_) Reg.AllG.nil
                  obtain ⟨o0a, o0b, o0c, o0d, o1a, o1b, o1c, o1d, o2a, o2b, o2c, o2d⟩ := hall.out _ hr0
                  go_simp
                  (with_reducible refine (Law04.addc_any a0 ad0 X7 Y7 cap0 cp0 x7 y7 b0 sg0 (nf 4) (mf 4) p0 q0 (sf 4) (tf 4) wq8 (P0.out.since (hS0.trans (hS.trans hr0))) (Q0.out.since (hS0.trans (hS.trans hr0))) (r7) (u7) (by have := FW.out; omega) (by have := FW.out; omega) (by have := LEN.out 4; omega) (by have := LEN.out 4; omega) EA5.out).mono ?_)
                  rintro e z108 ⟨X8, x8, Y8, y8, rfl, r8, u8, hx⟩
                  refine hK.out _ _ ?_ hx ?_
                  · exact hall.out _ (hr0.trans hx)
                  clear hK K o0a o0b o0c o0d o1a o1b o1c o1d o2a o2b o2c o2d
                  have hr0 := hr0.trans hx
                  have r5 := r5.since hx
                  have u5 := u5.since hx
                  have r6 := r6.since hx
                  have u6 := u6.since hx
                  have r7 := r7.since hx
                  have u7 := u7.since hx
                  clear hx
                  try simp only [Act.put, List.setIfInBounds_toArray, List.set_cons_zero, List.set_cons_succ]
                  as_aux_lemma =>
                    refine Reg.wpG_take (i := 40) (oi := { dst := some 84, op := Op.call { callee := Callee.value (Operand.tmp 69), args := #[Operand.tmp 76, Operand.tmp 83], argTypes := #[31, 31] }, type := 4, pos := "law.go:119", after := #[{ on := 25, ground := Ground.data }, { on := 32, ground := Ground.data }, { on := 39, ground := Ground.data }, { on := 39, ground := Ground.chain }, { on := 24, ground := Ground.guard }], guard := some (24, false) }) (v := .bool true) [41, 42, 43, 44, 45, 46, 47, 48, 49, 50, 51, 52, 53, 54, 55, 56, 57, 58, 59, 60, 61, 62, 63, 64, 65, 66, 67, 68, 69, 70, 71, 72, 73, 74, 75, 76, 77, 78, 79, 80, 81, 82, 83] [] rfl rfl (by kernel_rfl) (by kernel_rfl) (by kernel_rfl) (by kernel_rfl) (by kernel_rfl) (by kernel_rfl) (by kernel_rfl) (fun _ _ _ h => h) (Or.inl ⟨by rfl, Or.inr ⟨34, #[.agg #[.bool (nf 3), .slice X6 (sf 3).length x6, .bool (mf 3), .slice Y6 (tf 3).length y6], .agg #[.bool (nf 3), .slice X8 (sf 3).length x8, .bool (mf 3), .slice Y8 (tf 3).length y8]], fun w' kk ss => ⟨?_, ?_⟩⟩⟩) ?_
                    · (try dsimp only at ss); go_simp
                    · exact (Law04.samec_any X6 Y6 X8 Y8 x6 y6 x8 y8 (nf 3) (mf 3) (sf 3) (tf 3) w' (r6.since kk) (u6.since kk) (r8.since kk) (u8.since kk) (by have := LEN.out 3; omega) (by have := LEN.out 3; omega) (RG.out 3)).mono fun e w'' h => ⟨h.1, h.2, hall.out _ (hr0.trans (kk.trans h.2))⟩
                    try simp only [Act.put, List.setIfInBounds_toArray, List.set_cons_zero, List.set_cons_succ]
                    refine' Reg.wpG_take (i := 41) (oi := { dst := some 85, op := Op.unOp UnOp.not 4 (Operand.tmp 84), type := 4, pos := "law.go:119", after := #[{ on := 40, ground := Ground.data }, { on := 24, ground := Ground.guard }], guard := some (24, false) }) (v := _) [42, 43, 44, 45, 46, 47, 48, 49, 50, 51, 52, 53, 54, 55, 56, 57, 58, 59, 60, 61, 62, 63, 64, 65, 66, 67, 68, 69, 70, 71, 72, 73, 74, 75, 76, 77, 78, 79, 80, 81, 82, 83] [] rfl rfl (by kernel_rfl) (by kernel_rfl) (by kernel_rfl) (by kernel_rfl) (by kernel_rfl) (by kernel_rfl) (by kernel_rfl) (fun _ _ _ h => h) (Or.inl ⟨by rfl, Or.inl ?hy34⟩) ?rest34
                    case hy34 => (intro w' kk ss; (try dsimp only at ss); go_simp; first | done | with_reducible rfl)
                    try simp only [Act.put, List.setIfInBounds_toArray, List.set_cons_zero, List.set_cons_succ]
                    refine' Reg.wpG_take (i := 42) (oi := { dst := some 86, op := Op.pick (Operand.tmp 68) (Operand.const (Value.bool true)) (Operand.tmp 85), type := 4, pos := "law.go:119", after := #[{ on := 24, ground := Ground.data }, { on := 41, ground := Ground.data }], guard := none }) (v := _) [43, 44, 45, 46, 47, 48, 49, 50, 51, 52, 53, 54, 55, 56, 57, 58, 59, 60, 61, 62, 63, 64, 65, 66, 67, 68, 69, 70, 71, 72, 73, 74, 75, 76, 77, 78, 79, 80, 81, 82, 83] [] rfl rfl (by kernel_rfl) (by kernel_rfl) (by kernel_rfl) (by kernel_rfl) (by kernel_rfl) (by kernel_rfl) (by kernel_rfl) (fun _ _ _ h => h) (Or.inl ⟨by rfl, Or.inl ?hy35⟩) ?rest35
                    case hy35 => (intro w' kk ss; (try dsimp only at ss); go_simp; first | done | with_reducible rfl)
                    try simp only [Act.put, List.setIfInBounds_toArray, List.set_cons_zero, List.set_cons_succ]
                    refine' Reg.wpG_take (i := 43) (oi := { dst := some 87, op := Op.move (Operand.tmp 86), type := 4, pos := "law.go:119", after := #[{ on := 42, ground := Ground.data }, { on := 40, ground := Ground.chain }], guard := none }) (v := _) [44, 45, 46, 47, 48, 49, 50, 51, 52, 53, 54, 55, 56, 57, 58, 59, 60, 61, 62, 63, 64, 65, 66, 67, 68, 69, 70, 71, 72, 73, 74, 75, 76, 77, 78, 79, 80, 81, 82, 83] [] rfl rfl (by kernel_rfl) (by kernel_rfl) (by kernel_rfl) (by kernel_rfl) (by kernel_rfl) (by kernel_rfl) (by kernel_rfl) (fun _ _ _ h => h) (Or.inl ⟨by rfl, Or.inl ?hy36⟩) ?rest36
                    case hy36 => (intro w' kk ss; (try dsimp only at ss); go_simp; first | done | with_reducible rfl)
                    try simp only [Act.put, List.setIfInBounds_toArray, List.set_cons_zero, List.set_cons_succ]
                    refine' Reg.wpG_take (i := 44) (oi := { dst := some 88, op := Op.move (Operand.tmp 12), type := 58, pos := "law.go:119", after := #[{ on := 43, ground := Ground.guard }], guard := some (43, false) }) (v := _) [59, 60, 61, 62, 63, 64, 65, 66, 67, 68, 69, 70, 71, 72, 73, 74, 75, 76, 77, 78, 79, 80, 81, 82, 83] [] rfl rfl (by kernel_rfl) (by kernel_rfl) (by kernel_rfl) (by kernel_rfl) (by kernel_rfl) (by kernel_rfl) (by kernel_rfl) (fun _ _ _ h => h) (Or.inl ⟨by rfl, Or.inl ?hy37⟩) ?rest37
                    case hy37 => (intro w' kk ss; (try dsimp only at ss); go_simp; first | done | with_reducible rfl)
                    try simp only [Act.put, List.setIfInBounds_toArray, List.set_cons_zero, List.set_cons_succ]
                    refine' Reg.wpG_take (i := 45) (oi := { dst := some 89, op := Op.move (Operand.tmp 11), type := 56, pos := "law.go:119", after := #[{ on := 43, ground := Ground.guard }], guard := some (43, false) }) (v := _) [51, 57, 58, 59, 60, 61, 62, 63, 64, 65, 66, 67, 68, 69, 70, 71, 72, 73, 74, 75, 76, 77, 78, 79, 80, 81, 82, 83] [] rfl rfl (by kernel_rfl) (by kernel_rfl) (by kernel_rfl) (by kernel_rfl) (by kernel_rfl) (by kernel_rfl) (by kernel_rfl) (fun _ _ _ h => h) (Or.inl ⟨by rfl, Or.inl ?hy38⟩) ?rest38
                    case hy38 => (intro w' kk ss; (try dsimp only at ss); go_simp; first | done | with_reducible rfl)
                    try simp only [Act.put, List.setIfInBounds_toArray, List.set_cons_zero, List.set_cons_succ]
                    refine' Reg.wpG_take (i := 46) (oi := { dst := some 90, op := Op.move (Operand.tmp 11), type := 56, pos := "law.go:119", after := #[{ on := 43, ground := Ground.guard }], guard := some (43, false) }) (v := _) [49, 51, 57, 58, 59, 60, 61, 62, 63, 64, 65, 66, 67, 68, 69, 70, 71, 72, 73, 74, 75, 76, 77, 78, 79, 80, 81, 82, 83] [] rfl rfl (by kernel_rfl) (by kernel_rfl) (by kernel_rfl) (by kernel_rfl) (by kernel_rfl) (by kernel_rfl) (by kernel_rfl) (fun _ _ _ h => h) (Or.inl ⟨by rfl, Or.inl ?hy39⟩) ?rest39
                    case hy39 => (intro w' kk ss; (try dsimp only at ss); go_simp; first | done | with_reducible rfl)
                    try simp only [Act.put, List.setIfInBounds_toArray, List.set_cons_zero, List.set_cons_succ]
                    refine' Reg.wpG_take (i := 47) (oi := { dst := some 91, op := Op.load 31 (Operand.tmp 7), type := 31, pos := "law.go:119", after := #[{ on := 43, ground := Ground.guard }], guard := some (43, false) }) (v := _) [49, 51, 57, 58, 59, 60, 61, 62, 63, 64, 65, 66, 67, 68, 69, 70, 71, 72, 73, 74, 75, 76, 77, 78, 79, 80, 81, 82, 83] [] rfl rfl (by kernel_rfl) (by kernel_rfl) (by kernel_rfl) (by kernel_rfl) (by kernel_rfl) (by kernel_rfl) (by kernel_rfl) (fun _ _ _ h => h) (Or.inl ⟨by rfl, Or.inl ?hy40⟩) ?rest40
                    case hy40 => (intro w' kk ss; (try dsimp only at ss); go_simp; first | done | with_reducible rfl)
                    try simp only [Act.put, List.setIfInBounds_toArray, List.set_cons_zero, List.set_cons_succ]
                    refine' Reg.wpG_take (i := 48) (oi := { dst := some 92, op := Op.load 31 (Operand.tmp 8), type := 31, pos := "law.go:119", after := #[{ on := 43, ground := Ground.guard }], guard := some (43, false) }) (v := _) [49, 51, 57, 58, 59, 60, 61, 62, 63, 64, 65, 66, 67, 68, 69, 70, 71, 72, 73, 74, 75, 76, 77, 78, 79, 80, 81, 82, 83] [] rfl rfl (by kernel_rfl) (by kernel_rfl) (by kernel_rfl) (by kernel_rfl) (by kernel_rfl) (by kernel_rfl) (by kernel_rfl) (fun _ _ _ h => h) (Or.inl ⟨by rfl, Or.inl ?hy41⟩) ?rest41
                    case hy41 => (intro w' kk ss; (try dsimp only at ss); go_simp; first | done | with_reducible rfl)
                    try simp only [Act.put, List.setIfInBounds_toArray, List.set_cons_zero, List.set_cons_succ]
                    refine' Reg.wpG_take (i := 50) (oi := { dst := some 94, op := Op.load 31 (Operand.tmp 9), type := 31, pos := "law.go:119", after := #[{ on := 43, ground := Ground.guard }], guard := some (43, false) }) (v := _) [51, 57, 58, 59, 60, 61, 62, 63, 64, 65, 66, 67, 68, 69, 70, 71, 72, 73, 74, 75, 76, 77, 78, 79, 80, 81, 82, 83] [] rfl rfl (by kernel_rfl) (by kernel_rfl) (by kernel_rfl) (by kernel_rfl) (by kernel_rfl) (by kernel_rfl) (by kernel_rfl) (fun _ _ _ h => h) (Or.inl ⟨by rfl, Or.inl ?hy42⟩) ?rest42
                    case hy42 => (intro w' kk ss; (try dsimp only at ss); go_simp; first | done | with_reducible rfl)
                    try simp only [Act.put, List.setIfInBounds_toArray, List.set_cons_zero, List.set_cons_succ]
                    refine' Reg.wpG_take (i := 52) (oi := { dst := some 96, op := Op.move (Operand.tmp 11), type := 56, pos := "law.go:119", after := #[{ on := 43, ground := Ground.guard }], guard := some (43, false) }) (v := _) [58, 59, 60, 61, 62, 63, 64, 65, 66, 67, 68, 69, 70, 71, 72, 73, 74, 75, 76, 77, 78, 79, 80, 81, 82, 83] [] rfl rfl (by kernel_rfl) (by kernel_rfl) (by kernel_rfl) (by kernel_rfl) (by kernel_rfl) (by kernel_rfl) (by kernel_rfl) (fun _ _ _ h => h) (Or.inl ⟨by rfl, Or.inl ?hy43⟩) ?rest43
                    case hy43 => (intro w' kk ss; (try dsimp only at ss); go_simp; first | done | with_reducible rfl)
                    try simp only [Act.put, List.setIfInBounds_toArray, List.set_cons_zero, List.set_cons_succ]
                    refine' Reg.wpG_take (i := 53) (oi := { dst := some 97, op := Op.load 31 (Operand.tmp 7), type := 31, pos := "law.go:119", after := #[{ on := 43, ground := Ground.guard }], guard := some (43, false) }) (v := _) [58, 59, 60, 61, 62, 63, 64, 65, 66, 67, 68, 69, 70, 71, 72, 73, 74, 75, 76, 77, 78, 79, 80, 81, 82, 83] [] rfl rfl (by kernel_rfl) (by kernel_rfl) (by kernel_rfl) (by kernel_rfl) (by kernel_rfl) (by kernel_rfl) (by kernel_rfl) (fun _ _ _ h => h) (Or.inl ⟨by rfl, Or.inl ?hy44⟩) ?rest44
                    case hy44 => (intro w' kk ss; (try dsimp only at ss); go_simp; first | done | with_reducible rfl)
                    try simp only [Act.put, List.setIfInBounds_toArray, List.set_cons_zero, List.set_cons_succ]
                    refine' Reg.wpG_take (i := 54) (oi := { dst := some 98, op := Op.move (Operand.tmp 11), type := 56, pos := "law.go:119", after := #[{ on := 43, ground := Ground.guard }], guard := some (43, false) }) (v := _) [57, 58, 59, 60, 61, 62, 63, 64, 65, 66, 67, 68, 69, 70, 71, 72, 73, 74, 75, 76, 77, 78, 79, 80, 81, 82, 83] [] rfl rfl (by kernel_rfl) (by kernel_rfl) (by kernel_rfl) (by kernel_rfl) (by kernel_rfl) (by kernel_rfl) (by kernel_rfl) (fun _ _ _ h => h) (Or.inl ⟨by rfl, Or.inl ?hy45⟩) ?rest45
                    case hy45 => (intro w' kk ss; (try dsimp only at ss); go_simp; first | done | with_reducible rfl)
                    try simp only [Act.put, List.setIfInBounds_toArray, List.set_cons_zero, List.set_cons_succ]
                    refine' Reg.wpG_take (i := 55) (oi := { dst := some 99, op := Op.load 31 (Operand.tmp 8), type := 31, pos := "law.go:119", after := #[{ on := 43, ground := Ground.guard }], guard := some (43, false) }) (v := _) [57, 58, 59, 60, 61, 62, 63, 64, 65, 66, 67, 68, 69, 70, 71, 72, 73, 74, 75, 76, 77, 78, 79, 80, 81, 82, 83] [] rfl rfl (by kernel_rfl) (by kernel_rfl) (by kernel_rfl) (by kernel_rfl) (by kernel_rfl) (by kernel_rfl) (by kernel_rfl) (fun _ _ _ h => h) (Or.inl ⟨by rfl, Or.inl ?hy46⟩) ?rest46
                    case hy46 => (intro w' kk ss; (try dsimp only at ss); go_simp; first | done | with_reducible rfl)
                    try simp only [Act.put, List.setIfInBounds_toArray, List.set_cons_zero, List.set_cons_succ]
                    refine' Reg.wpG_take (i := 56) (oi := { dst := some 100, op := Op.load 31 (Operand.tmp 9), type := 31, pos := "law.go:119", after := #[{ on := 43, ground := Ground.guard }], guard := some (43, false) }) (v := _) [57, 58, 59, 60, 61, 62, 63, 64, 65, 66, 67, 68, 69, 70, 71, 72, 73, 74, 75, 76, 77, 78, 79, 80, 81, 82, 83] [] rfl rfl (by kernel_rfl) (by kernel_rfl) (by kernel_rfl) (by kernel_rfl) (by kernel_rfl) (by kernel_rfl) (by kernel_rfl) (fun _ _ _ h => h) (Or.inl ⟨by rfl, Or.inl ?hy47⟩) ?rest47
                    case hy47 => (intro w' kk ss; (try dsimp only at ss); go_simp; first | done | with_reducible rfl)
                    try simp only [Act.put, List.setIfInBounds_toArray, List.set_cons_zero, List.set_cons_succ]
                    refine Reg.wpG_ready (rs := [49]) (by kernel_rfl) (by simp) (fun wq9 k9' sq9 => ?_)
                    have hr0 := hr0.trans k9'
                    have r5 := r5.since k9'
                    have u5 := u5.since k9'
                    have r7 := r7.since k9'
                    have u7 := u7.since k9'
                    refine Reg.AllG.first (o := { dst := some 93, op := Op.call { callee := Callee.value (Operand.tmp 90), args := #[Operand.tmp 91, Operand.tmp 92], argTypes := #[31, 31] }, type := 31, pos := "law.go:119", after := #[{ on := 46, ground := Ground.data }, { on := 47, ground := Ground.data }, { on := 48, ground := Ground.data }, { on := 43, ground := Ground.chain }, { on := 43, ground := Ground.guard }], guard := some (43, false) }) rfl (by rfl) (fun K hK => ?_) Reg.AllG.nil
                    obtain ⟨o0a, o0b, o0c, o0d, o1a, o1b, o1c, o1d, o2a, o2b, o2c, o2d⟩ := hall.out _ hr0
                    go_simp
                    (with_reducible refine (Law04.mulc_any a0 ad0 a1 ad1 cap0 cp0 cap1 cp1 b0 sg0 b1 sg1 p0 q0 p1 q1 wq9 (P0.out.since (hS0.trans (hS.trans hr0))) (Q0.out.since (hS0.trans (hS.trans hr0))) (P1.out.since (hS0.trans (hS.trans hr0))) (Q1.out.since (hS0.trans (hS.trans hr0))) (by have := FW.out; omega) (by have := FW.out; omega) (by have := FW.out; omega) (by have := FW.out; omega) EM1.out).mono ?_)
                    rintro e z109 ⟨X9, x9, Y9, y9, rfl, r9, u9, hx⟩
                    refine hK.out _ _ ?_ hx ?_
                    · exact hall.out _ (hr0.trans hx)
                    clear hK K o0a o0b o0c o0d o1a o1b o1c o1d o2a o2b o2c o2d
                    have hr0 := hr0.trans hx
                    have r5 := r5.since hx
                    have u5 := u5.since hx
                    have r7 := r7.since hx
                    have u7 := u7.since hx
                    clear hx
                    try simp only [Act.put, List.setIfInBounds_toArray, List.set_cons_zero, List.set_cons_succ]
                    as_aux_lemma =>
                      refine Reg.wpG_ready (rs := [51]) (by kernel_rfl) (by simp) (fun wq10 k10' sq10 => ?_)
                      have hr0 := hr0.trans k10'
                      have r5 := r5.since k10'
                      have u5 := u5.since k10'
                      have r7 := r7.since k10'
                      have u7 := u7.since k10'
                      have r9 := r9.since k10'
                      have u9 := u9.since k10'
                      refine Reg.AllG.first (o := { dst := some 95, op := Op.call { callee := Callee.value (Operand.tmp 89), args := #[Operand.tmp 93, Operand.tmp 94], argTypes := #[31, 31] }, type := 31, pos := "law.go:119", after := #[{ on := 45, ground := Ground.data }, { on := 49, ground := Ground.data }, { on := 50, ground := Ground.data }, { on := 49, ground := Ground.chain }, { on := 43, ground := Ground.guard }], guard := some (43, false) }) rfl (by rfl) (fun K hK => ?_) Reg.AllG.nil
                      obtain ⟨o0a, o0b, o0c, o0d, o1a, o1b, o1c, o1d, o2a, o2b, o2c, o2d⟩ := hall.out _ hr0
                      go_simp
                      (with_reducible refine (Law04.mulc_any X9 Y9 a2 ad2 x9 y9 cap2 cp2 (nf 2) (mf 2) b2 sg2 (sf 2) (tf 2) p2 q2 wq10 (r9) (u9) (P2.out.since (hS0.trans (hS.trans hr0))) (Q2.out.since (hS0.trans (hS.trans hr0))) (by have := LEN.out 2; omega) (by have := LEN.out 2; omega) (by have := FW.out; omega) (by have := FW.out; omega) EM5.out).mono ?_)
                      rintro e z110 ⟨X10, x10, Y10, y10, rfl, r10, u10, hx⟩
                      refine hK.out _ _ ?_ hx ?_
                      · exact hall.out _ (hr0.trans hx)
                      clear hK K o0a o0b o0c o0d o1a o1b o1c o1d o2a o2b o2c o2d
                      have hr0 := hr0.trans hx
                      have r5 := r5.since hx
                      have u5 := u5.since hx
                      have r7 := r7.since hx
                      have u7 := u7.since hx
                      have r9 := r9.since hx
                      have u9 := u9.since hx
                      clear hx
                      try simp only [Act.put, List.setIfInBounds_toArray, List.set_cons_zero, List.set_cons_succ]
                      as_aux_lemma =>
                        refine Reg.wpG_ready (rs := [57]) (by kernel_rfl) (by simp) (fun wq11 k11' sq11 => ?_)
                        have hr0 := hr0.trans k11'
                        have r5 := r5.since k11'
                        have u5 := u5.since k11'
                        have r7 := r7.since k11'
                        have u7 := u7.since k11'
                        have r9 := r9.since k11'
                        have u9 := u9.since k11'
                        have r10 := r10.since k11'
                        have u10 := u10.since k11'
                        refine Reg.AllG.first (o := { dst := some 101, op := Op.call { callee := Callee.value (Operand.tmp 98), args := #[Operand.tmp 99, Operand.tmp 100], argTypes := #[31, 31] }, type := 31, pos := "law.go:119", after := #[{ on := 54, ground := Ground.data }, { on := 55, ground := Ground.data }, { on := 56, ground := Ground.data }, { on := 51, ground := Ground.chain }, { on := 43, ground := Ground.guard }], guard := some (43, false) }) rfl (by rfl) (fun K hK => ?_) Reg.AllG.nil
                        obtain ⟨o0a, o0b, o0c, o0d, o1a, o1b, o1c, o1d, o2a, o2b, o2c, o2d⟩ := hall.out _ hr0
                        go_simp
                        (with_reducible refine (Law04.mulc_any a1 ad1 a2 ad2 cap1 cp1 cap2 cp2 b1 sg1 b2 sg2 p1 q1 p2 q2 wq11 (P1.out.since (hS0.trans (hS.trans hr0))) (Q1.out.since (hS0.trans (hS.trans hr0))) (P2.out.since (hS0.trans (hS.trans hr0))) (Q2.out.since (hS0.trans (hS.trans hr0))) (by have := FW.out; omega) (by have := FW.out; omega) (by have := FW.out; omega) (by have := FW.out; omega) EM6.out).mono ?_)
                        rintro e z111 ⟨X11, x11, Y11, y11, rfl, r11, u11, hx⟩
                        refine hK.out _ _ ?_ hx ?_
                        · exact hall.out _ (hr0.trans hx)
                        clear hK K o0a o0b o0c o0d o1a o1b o1c o1d o2a o2b o2c o2d
                        have hr0 := hr0.trans hx
                        have r5 := r5.since hx
                        have u5 := u5.since hx
                        have r7 := r7.since hx
                        have u7 := u7.since hx
                        have r9 := r9.since hx
                        have u9 := u9.since hx
                        have r10 := r10.since hx
                        have u10 := u10.since hx
                        clear hx
                        try simp only [Act.put, List.setIfInBounds_toArray, List.set_cons_zero, List.set_cons_succ]
                        as_aux_lemma =>
                          refine Reg.wpG_ready (rs := [58]) (by kernel_rfl) (by simp) (fun wq12 k12' sq12 => ?_)
                          have hr0 := hr0.trans k12'
                          have r5 := r5.since k12'
                          have u5 := u5.since k12'
                          have r7 := r7.since k12'
                          have u7 := u7.since k12'
                          have r9 := r9.since k12'
                          have u9 := u9.since k12'
                          have r10 := r10.since k12'
                          have u10 := u10.since k12'
                          have r11 := r11.since k12'
                          have u11 := u11.since k12'
                          refine Reg.AllG.first (o := { dst := some 102, op := Op.call { callee := Callee.value (Operand.tmp 96), args := #[Operand.tmp 97, Operand.tmp 101], argTypes := #[31, 31] }, type := 31, pos := "law.go:119", after := #[{ on := 52, ground := Ground.data }, { on := 53, ground := Ground.data }, { on := 57, ground := Ground.data }, { on := 57, ground := Ground.chain }, { on := 43, ground := Ground.guard }], guard := some (43, false) }) rfl (by rfl) (fun K hK => ?_) Reg.AllG.nil
                          obtain ⟨o0a, o0b, o0c, o0d, o1a, o1b, o1c, o1d, o2a, o2b, o2c, o2d⟩ := hall.out _ hr0
                          go_simp
                          (with_reducible refine (Law04.mulc_any a0 ad0 X11 Y11 cap0 cp0 x11 y11 b0 sg0 (nf 6) (mf 6) p0 q0 (sf 6) (tf 6) wq12 (P0.out.since (hS0.trans (hS.trans hr0))) (Q0.out.since (hS0.trans (hS.trans hr0))) (r11) (u11) (by have := FW.out; omega) (by have := FW.out; omega) (by have := LEN.out 6; omega) (by have := LEN.out 6; omega) EM7.out).mono ?_)
                          rintro e z112 ⟨X12, x12, Y12, y12, rfl, r12, u12, hx⟩
                          refine hK.out _ _ ?_ hx ?_
                          · exact hall.out _ (hr0.trans hx)
                          clear hK K o0a o0b o0c o0d o1a o1b o1c o1d o2a o2b o2c o2d
                          have hr0 := hr0.trans hx
                          have r5 := r5.since hx
                          have u5 := u5.since hx
                          have r7 := r7.since hx
                          have u7 := u7.since hx
                          have r9 := r9.since hx
                          have u9 := u9.since hx
                          have r10 := r10.since hx
                          have u10 := u10.since hx
                          have r11 := r11.since hx
                          have u11 := u11.since hx
                          clear hx
                          try simp only [Act.put, List.setIfInBounds_toArray, List.set_cons_zero, List.set_cons_succ]
                          as_aux_lemma =>
                            refine Reg.wpG_take (i := 59) (oi := { dst := some 103, op := Op.call { callee := Callee.value (Operand.tmp 88), args := #[Operand.tmp 95, Operand.tmp 102], argTypes := #[31, 31] }, type := 4, pos := "law.go:119", after := #[{ on := 44, ground := Ground.data }, { on := 51, ground := Ground.data }, { on := 58, ground := Ground.data }, { on := 58, ground := Ground.chain }, { on := 43, ground := Ground.guard }], guard := some (43, false) }) (v := .bool true) [60, 61, 62, 63, 64, 65, 66, 67, 68, 69, 70, 71, 72, 73, 74, 75, 76, 77, 78, 79, 80, 81, 82, 83] [] rfl rfl (by kernel_rfl) (by kernel_rfl) (by kernel_rfl) (by kernel_rfl) (by kernel_rfl) (by kernel_rfl) (by kernel_rfl) (fun _ _ _ h => h) (Or.inl ⟨by rfl, Or.inr ⟨34, #[.agg #[.bool (nf 5), .slice X10 (sf 5).length x10, .bool (mf 5), .slice Y10 (tf 5).length y10], .agg #[.bool (nf 5), .slice X12 (sf 5).length x12, .bool (mf 5), .slice Y12 (tf 5).length y12]], fun w' kk ss => ⟨?_, ?_⟩⟩⟩) ?_
                            · (try dsimp only at ss); go_simp
                            · exact (Law04.samec_any X10 Y10 X12 Y12 x10 y10 x12 y12 (nf 5) (mf 5) (sf 5) (tf 5) w' (r10.since kk) (u10.since kk) (r12.since kk) (u12.since kk) (by have := LEN.out 5; omega) (by have := LEN.out 5; omega) (RG.out 5)).mono fun e w'' h => ⟨h.1, h.2, hall.out _ (hr0.trans (kk.trans h.2))⟩
                            try simp only [Act.put, List.setIfInBounds_toArray, List.set_cons_zero, List.set_cons_succ]
                            refine' Reg.wpG_take (i := 60) (oi := { dst := some 104, op := Op.unOp UnOp.not 4 (Operand.tmp 103), type := 4, pos := "law.go:119", after := #[{ on := 59, ground := Ground.data }, { on := 43, ground := Ground.guard }], guard := some (43, false) }) (v := _) [61, 62, 63, 64, 65, 66, 67, 68, 69, 70, 71, 72, 73, 74, 75, 76, 77, 78, 79, 80, 81, 82, 83] [] rfl rfl (by kernel_rfl) (by kernel_rfl) (by kernel_rfl) (by kernel_rfl) (by kernel_rfl) (by kernel_rfl) (by kernel_rfl) (fun _ _ _ h => h) (Or.inl ⟨by rfl, Or.inl ?hy48⟩) ?rest48
                            case hy48 => (intro w' kk ss; (try dsimp only at ss); go_simp; first | done | with_reducible rfl)
                            try simp only [Act.put, List.setIfInBounds_toArray, List.set_cons_zero, List.set_cons_succ]
                            refine' Reg.wpG_take (i := 61) (oi := { dst := some 105, op := Op.pick (Operand.tmp 87) (Operand.const (Value.bool true)) (Operand.tmp 104), type := 4, pos := "law.go:119", after := #[{ on := 43, ground := Ground.data }, { on := 60, ground := Ground.data }], guard := none }) (v := _) [62, 63, 64, 65, 66, 67, 68, 69, 70, 71, 72, 73, 74, 75, 76, 77, 78, 79, 80, 81, 82, 83] [] rfl rfl (by kernel_rfl) (by kernel_rfl) (by kernel_rfl) (by kernel_rfl) (by kernel_rfl) (by kernel_rfl) (by kernel_rfl) (fun _ _ _ h => h) (Or.inl ⟨by rfl, Or.inl ?hy49⟩) ?rest49
                            case hy49 => (intro w' kk ss; (try dsimp only at ss); go_simp; first | done | with_reducible rfl)
                            try simp only [Act.put, List.setIfInBounds_toArray, List.set_cons_zero, List.set_cons_succ]
                            refine' Reg.wpG_take (i := 62) (oi := { dst := some 106, op := Op.move (Operand.tmp 105), type := 4, pos := "law.go:119", after := #[{ on := 61, ground := Ground.data }, { on := 59, ground := Ground.chain }], guard := none }) (v := _) [63, 64, 65, 66, 67, 68, 69, 70, 71, 72, 73, 74, 75, 76, 77, 78, 79, 80, 81, 82, 83] [] rfl rfl (by kernel_rfl) (by kernel_rfl) (by kernel_rfl) (by kernel_rfl) (by kernel_rfl) (by kernel_rfl) (by kernel_rfl) (fun _ _ _ h => h) (Or.inl ⟨by rfl, Or.inl ?hy50⟩) ?rest50
                            case hy50 => (intro w' kk ss; (try dsimp only at ss); go_simp; first | done | with_reducible rfl)
                            try simp only [Act.put, List.setIfInBounds_toArray, List.set_cons_zero, List.set_cons_succ]
                            refine' Reg.wpG_take (i := 63) (oi := { dst := some 107, op := Op.move (Operand.tmp 12), type := 58, pos := "law.go:119", after := #[{ on := 62, ground := Ground.guard }], guard := some (62, false) }) (v := _) [81, 82, 83] [] rfl rfl (by kernel_rfl) (by kernel_rfl) (by kernel_rfl) (by kernel_rfl) (by kernel_rfl) (by kernel_rfl) (by kernel_rfl) (fun _ _ _ h => h) (Or.inl ⟨by rfl, Or.inl ?hy51⟩) ?rest51
                            case hy51 => (intro w' kk ss; (try dsimp only at ss); go_simp; first | done | with_reducible rfl)
                            try simp only [Act.put, List.setIfInBounds_toArray, List.set_cons_zero, List.set_cons_succ]
                            refine' Reg.wpG_take (i := 64) (oi := { dst := some 108, op := Op.move (Operand.tmp 11), type := 56, pos := "law.go:119", after := #[{ on := 62, ground := Ground.guard }], guard := some (62, false) }) (v := _) [70, 75, 79, 80, 81, 82, 83] [] rfl rfl (by kernel_rfl) (by kernel_rfl) (by kernel_rfl) (by kernel_rfl) (by kernel_rfl) (by kernel_rfl) (by kernel_rfl) (fun _ _ _ h => h) (Or.inl ⟨by rfl, Or.inl ?hy52⟩) ?rest52
                            case hy52 => (intro w' kk ss; (try dsimp only at ss); go_simp; first | done | with_reducible rfl)
                            try simp only [Act.put, List.setIfInBounds_toArray, List.set_cons_zero, List.set_cons_succ]
                            refine' Reg.wpG_take (i := 65) (oi := { dst := some 109, op := Op.move (Operand.tmp 10), type := 56, pos := "law.go:119", after := #[{ on := 62, ground := Ground.guard }], guard := some (62, false) }) (v := _) [68, 70, 75, 79, 80, 81, 82, 83] [] rfl rfl (by kernel_rfl) (by kernel_rfl) (by kernel_rfl) (by kernel_rfl) (by kernel_rfl) (by kernel_rfl) (by kernel_rfl) (fun _ _ _ h => h) (Or.inl ⟨by rfl, Or.inl ?hy53⟩) ?rest53
                            case hy53 => (intro w' kk ss; (try dsimp only at ss); go_simp; first | done | with_reducible rfl)
                            try simp only [Act.put, List.setIfInBounds_toArray, List.set_cons_zero, List.set_cons_succ]
                            refine' Reg.wpG_take (i := 66) (oi := { dst := some 110, op := Op.load 31 (Operand.tmp 7), type := 31, pos := "law.go:119", after := #[{ on := 62, ground := Ground.guard }], guard := some (62, false) }) (v := _) [68, 70, 75, 79, 80, 81, 82, 83] [] rfl rfl (by kernel_rfl) (by kernel_rfl) (by kernel_rfl) (by kernel_rfl) (by kernel_rfl) (by kernel_rfl) (by kernel_rfl) (fun _ _ _ h => h) (Or.inl ⟨by rfl, Or.inl ?hy54⟩) ?rest54
                            case hy54 => (intro w' kk ss; (try dsimp only at ss); go_simp; first | done | with_reducible rfl)
                            try simp only [Act.put, List.setIfInBounds_toArray, List.set_cons_zero, List.set_cons_succ]
                            refine' Reg.wpG_take (i := 67) (oi := { dst := some 111, op := Op.load 31 (Operand.tmp 8), type := 31, pos := "law.go:119", after := #[{ on := 62, ground := Ground.guard }], guard := some (62, false) }) (v := _) [68, 70, 75, 79, 80, 81, 82, 83] [] rfl rfl (by kernel_rfl) (by kernel_rfl) (by kernel_rfl) (by kernel_rfl) (by kernel_rfl) (by kernel_rfl) (by kernel_rfl) (fun _ _ _ h => h) (Or.inl ⟨by rfl, Or.inl ?hy55⟩) ?rest55
                            case hy55 => (intro w' kk ss; (try dsimp only at ss); go_simp; first | done | with_reducible rfl)
                            try simp only [Act.put, List.setIfInBounds_toArray, List.set_cons_zero, List.set_cons_succ]
                            refine' Reg.wpG_take (i := 69) (oi := { dst := some 113, op := Op.load 31 (Operand.tmp 9), type := 31, pos := "law.go:119", after := #[{ on := 62, ground := Ground.guard }], guard := some (62, false) }) (v := _) [70, 75, 79, 80, 81, 82, 83] [] rfl rfl (by kernel_rfl) (by kernel_rfl) (by kernel_rfl) (by kernel_rfl) (by kernel_rfl) (by kernel_rfl) (by kernel_rfl) (fun _ _ _ h => h) (Or.inl ⟨by rfl, Or.inl ?hy56⟩) ?rest56
                            case hy56 => (intro w' kk ss; (try dsimp only at ss); go_simp; first | done | with_reducible rfl)
                            try simp only [Act.put, List.setIfInBounds_toArray, List.set_cons_zero, List.set_cons_succ]
                            refine' Reg.wpG_take (i := 71) (oi := { dst := some 115, op := Op.move (Operand.tmp 10), type := 56, pos := "law.go:119", after := #[{ on := 62, ground := Ground.guard }], guard := some (62, false) }) (v := _) [80, 81, 82, 83] [] rfl rfl (by kernel_rfl) (by kernel_rfl) (by kernel_rfl) (by kernel_rfl) (by kernel_rfl) (by kernel_rfl) (by kernel_rfl) (fun _ _ _ h => h) (Or.inl ⟨by rfl, Or.inl ?hy57⟩) ?rest57
                            case hy57 => (intro w' kk ss; (try dsimp only at ss); go_simp; first | done | with_reducible rfl)
                            try simp only [Act.put, List.setIfInBounds_toArray, List.set_cons_zero, List.set_cons_succ]
                            refine' Reg.wpG_take (i := 72) (oi := { dst := some 116, op := Op.move (Operand.tmp 11), type := 56, pos := "law.go:119", after := #[{ on := 62, ground := Ground.guard }], guard := some (62, false) }) (v := _) [75, 79, 80, 81, 82, 83] [] rfl rfl (by kernel_rfl) (by kernel_rfl) (by kernel_rfl) (by kernel_rfl) (by kernel_rfl) (by kernel_rfl) (by kernel_rfl) (fun _ _ _ h => h) (Or.inl ⟨by rfl, Or.inl ?hy58⟩) ?rest58
                            case hy58 => (intro w' kk ss; (try dsimp only at ss); go_simp; first | done | with_reducible rfl)
                            try simp only [Act.put, List.setIfInBounds_toArray, List.set_cons_zero, List.set_cons_succ]
                            refine' Reg.wpG_take (i := 73) (oi := { dst := some 117, op := Op.load 31 (Operand.tmp 7), type := 31, pos := "law.go:119", after := #[{ on := 62, ground := Ground.guard }], guard := some (62, false) }) (v := _) [75, 79, 80, 81, 82, 83] [] rfl rfl (by kernel_rfl) (by kernel_rfl) (by kernel_rfl) (by kernel_rfl) (by kernel_rfl) (by kernel_rfl) (by kernel_rfl) (fun _ _ _ h => h) (Or.inl ⟨by rfl, Or.inl ?hy59⟩) ?rest59
                            case hy59 => (intro w' kk ss; (try dsimp only at ss); go_simp; first | done | with_reducible rfl)
                            try simp only [Act.put, List.setIfInBounds_toArray, List.set_cons_zero, List.set_cons_succ]
                            refine' Reg.wpG_take (i := 74) (oi := { dst := some 118, op := Op.load 31 (Operand.tmp 9), type := 31, pos := "law.go:119", after := #[{ on := 62, ground := Ground.guard }], guard := some (62, false) }) (v := _) [75, 79, 80, 81, 82, 83] [] rfl rfl (by kernel_rfl) (by kernel_rfl) (by kernel_rfl) (by kernel_rfl) (by kernel_rfl) (by kernel_rfl) (by kernel_rfl) (fun _ _ _ h => h) (Or.inl ⟨by rfl, Or.inl ?hy60⟩) ?rest60
                            case hy60 => (intro w' kk ss; (try dsimp only at ss); go_simp; first | done | with_reducible rfl)
                            try simp only [Act.put, List.setIfInBounds_toArray, List.set_cons_zero, List.set_cons_succ]
                            refine' Reg.wpG_take (i := 76) (oi := { dst := some 120, op := Op.move (Operand.tmp 11), type := 56, pos := "law.go:119", after := #[{ on := 62, ground := Ground.guard }], guard := some (62, false) }) (v := _) [79, 80, 81, 82, 83] [] rfl rfl (by kernel_rfl) (by kernel_rfl) (by kernel_rfl) (by kernel_rfl) (by kernel_rfl) (by kernel_rfl) (by kernel_rfl) (fun _ _ _ h => h) (Or.inl ⟨by rfl, Or.inl ?hy61⟩) ?rest61
                            case hy61 => (intro w' kk ss; (try dsimp only at ss); go_simp; first | done | with_reducible rfl)
                            try simp only [Act.put, List.setIfInBounds_toArray, List.set_cons_zero, List.set_cons_succ]
                            refine' Reg.wpG_take (i := 77) (oi := { dst := some 121, op := Op.load 31 (Operand.tmp 8), type := 31, pos := "law.go:119", after := #[{ on := 62, ground := Ground.guard }], guard := some (62, false) }) (v := _) [79, 80, 81, 82, 83] [] rfl rfl (by kernel_rfl) (by kernel_rfl) (by kernel_rfl) (by kernel_rfl) (by kernel_rfl) (by kernel_rfl) (by kernel_rfl) (fun _ _ _ h => h) (Or.inl ⟨by rfl, Or.inl ?hy62⟩) ?rest62
                            case hy62 => (intro w' kk ss; (try dsimp only at ss); go_simp; first | done | with_reducible rfl)
                            try simp only [Act.put, List.setIfInBounds_toArray, List.set_cons_zero, List.set_cons_succ]
                            refine' Reg.wpG_take (i := 78) (oi := { dst := some 122, op := Op.load 31 (Operand.tmp 9), type := 31, pos := "law.go:119", after := #[{ on := 62, ground := Ground.guard }], guard := some (62, false) }) (v := _) [79, 80, 81, 82, 83] [] rfl rfl (by kernel_rfl) (by kernel_rfl) (by kernel_rfl) (by kernel_rfl) (by kernel_rfl) (by kernel_rfl) (by kernel_rfl) (fun _ _ _ h => h) (Or.inl ⟨by rfl, Or.inl ?hy63⟩) ?rest63
                            case hy63 => (intro w' kk ss; (try dsimp only at ss); go_simp; first | done | with_reducible rfl)
                            try simp only [Act.put, List.setIfInBounds_toArray, List.set_cons_zero, List.set_cons_succ]
                            refine Reg.wpG_ready (rs := [68]) (by kernel_rfl) (by simp) (fun wq13 k13' sq13 => ?_)
                            have hr0 := hr0.trans k13'
                            have r5 := r5.since k13'
                            have u5 := u5.since k13'
                            have r7 := r7.since k13'
                            have u7 := u7.since k13'
                            have r9 := r9.since k13'
                            have u9 := u9.since k13'
                            have r11 := r11.since k13'
                            have u11 := u11.since k13'
                            refine Reg.AllG.first (o := { dst := some 112, op := Op.call { callee := Callee.value (Operand.tmp 109), args := #[Operand.tmp 110, Operand.tmp 111], argTypes := #[31, 31] }, type := 31, pos := "law.go:119", after := #[{ on := 65, ground := Ground.data }, { on := 66, ground := Ground.data }, { on := 67, ground := Ground.data }, { on := 62, ground := Ground.chain }, { on := 62, ground := Ground.guard }], guard := some (62, false) }) rfl (by rfl) (fun K hK => ?_) Reg.AllG.nil
                            obtain ⟨o0a, o0b, o0c, o0d, o1a, o1b, o1c, o1d, o2a, o2b, o2c, o2d⟩ := hall.out _ hr0
                            go_simp
                            (with_reducible refine (Law04.addc_any a0 ad0 a1 ad1 cap0 cp0 cap1 cp1 b0 sg0 b1 sg1 p0 q0 p1 q1 wq13 (P0.out.since (hS0.trans (hS.trans hr0))) (Q0.out.since (hS0.trans (hS.trans hr0))) (P1.out.since (hS0.trans (hS.trans hr0))) (Q1.out.since (hS0.trans (hS.trans hr0))) (by have := FW.out; omega) (by have := FW.out; omega) (by have := FW.out; omega) (by have := FW.out; omega) EA1.out).mono ?_)
                            rintro e z113 ⟨X13, x13, Y13, y13, rfl, r13, u13, hx⟩
                            refine hK.out _ _ ?_ hx ?_
                            · exact hall.out _ (hr0.trans hx)
                            clear hK K o0a o0b o0c o0d o1a o1b o1c o1d o2a o2b o2c o2d
                            have hr0 := hr0.trans hx
                            have r5 := r5.since hx
                            have u5 := u5.since hx
                            have r7 := r7.since hx
                            have u7 := u7.since hx
                            have r9 := r9.since hx
                            have u9 := u9.since hx
                            have r11 := r11.since hx
                            have u11 := u11.since hx
                            clear hx
                            try simp only [Act.put, List.setIfInBounds_toArray, List.set_cons_zero, List.set_cons_succ]
                            as_aux_lemma =>
                              refine Reg.wpG_ready (rs := [70]) (by kernel_rfl) (by simp) (fun wq14 k14' sq14 => ?_)
                              have hr0 := hr0.trans k14'
                              have r5 := r5.since k14'
                              have u5 := u5.since k14'
                              have r7 := r7.since k14'
                              have u7 := u7.since k14'
                              have r9 := r9.since k14'
                              have u9 := u9.since k14'
                              have r11 := r11.since k14'
                              have u11 := u11.since k14'
                              have r13 := r13.since k14'
                              have u13 := u13.since k14'
                              refine Reg.AllG.first (o := { dst := some 114, op := Op.call { callee := Callee.value (Operand.tmp 108), args := #[Operand.tmp 112, Operand.tmp 113], argTypes := #[31, 31] }, type := 31, pos := "law.go:119", after := #[{ on := 64, ground := Ground.data }, { on := 68, ground := Ground.data }, { on := 69, ground := Ground.data }, { on := 68, ground := Ground.chain }, { on := 62, ground := Ground.guard }], guard := some (62, false) }) rfl (by rfl) (fun K hK => ?_) Reg.AllG.nil
                              obtain ⟨o0a, o0b, o0c, o0d, o1a, o1b, o1c, o1d, o2a, o2b, o2c, o2d⟩ := hall.out _ hr0
                              go_simp
                              (with_reducible refine (Law04.mulc_any X13 Y13 a2 ad2 x13 y13 cap2 cp2 (nf 1) (mf 1) b2 sg2 (sf 1) (tf 1) p2 q2 wq14 (r13) (u13) (P2.out.since (hS0.trans (hS.trans hr0))) (Q2.out.since (hS0.trans (hS.trans hr0))) (by have := LEN.out 1; omega) (by have := LEN.out 1; omega) (by have := FW.out; omega) (by have := FW.out; omega) EM8.out).mono ?_)
                              rintro e z114 ⟨X14, x14, Y14, y14, rfl, r14, u14, hx⟩
                              refine hK.out _ _ ?_ hx ?_
                              · exact hall.out _ (hr0.trans hx)
                              clear hK K o0a o0b o0c o0d o1a o1b o1c o1d o2a o2b o2c o2d
                              have hr0 := hr0.trans hx
                              have r5 := r5.since hx
                              have u5 := u5.since hx
                              have r7 := r7.since hx
                              have u7 := u7.since hx
                              have r9 := r9.since hx
                              have u9 := u9.since hx
                              have r11 := r11.since hx
                              have u11 := u11.since hx
                              have r13 := r13.since hx
                              have u13 := u13.since hx
                              clear hx
                              try simp only [Act.put, List.setIfInBounds_toArray, List.set_cons_zero, List.set_cons_succ]
                              as_aux_lemma =>
                                refine Reg.wpG_ready (rs := [75]) (by kernel_rfl) (by simp) (fun wq15 k15' sq15 => ?_)
                                have hr0 := hr0.trans k15'
                                have r5 := r5.since k15'
                                have u5 := u5.since k15'
                                have r7 := r7.since k15'
                                have u7 := u7.since k15'
                                have r9 := r9.since k15'
                                have u9 := u9.since k15'
                                have r11 := r11.since k15'
                                have u11 := u11.since k15'
                                have r13 := r13.since k15'
                                have u13 := u13.since k15'
                                have r14 := r14.since k15'
                                have u14 := u14.since k15'
                                refine Reg.AllG.first (o := { dst := some 119, op := Op.call { callee := Callee.value (Operand.tmp 116), args := #[Operand.tmp 117, Operand.tmp 118], argTypes := #[31, 31] }, type := 31, pos := "law.go:119", after := #[{ on := 72, ground := Ground.data }, { on := 73, ground := Ground.data }, { on := 74, ground := Ground.data }, { on := 70, ground := Ground.chain }, { on := 62, ground := Ground.guard }], guard := some (62, false) }) rfl (by rfl) (fun K hK => ?_) Reg.AllG.nil
                                obtain ⟨o0a, o0b, o0c, o0d, o1a, o1b, o1c, o1d, o2a, o2b, o2c, o2d⟩ := hall.out _ hr0
                                go_simp
                                (with_reducible refine (Law04.mulc_any a0 ad0 a2 ad2 cap0 cp0 cap2 cp2 b0 sg0 b2 sg2 p0 q0 p2 q2 wq15 (P0.out.since (hS0.trans (hS.trans hr0))) (Q0.out.since (hS0.trans (hS.trans hr0))) (P2.out.since (hS0.trans (hS.trans hr0))) (Q2.out.since (hS0.trans (hS.trans hr0))) (by have := FW.out; omega) (by have := FW.out; omega) (by have := FW.out; omega) (by have := FW.out; omega) EM9.out).mono ?_)
                                rintro e z115 ⟨X15, x15, Y15, y15, rfl, r15, u15, hx⟩
                                refine hK.out _ _ ?_ hx ?_
                                · exact hall.out _ (hr0.trans hx)
                                clear hK K o0a o0b o0c o0d o1a o1b o1c o1d o2a o2b o2c o2d
                                have hr0 := hr0.trans hx
                                have r5 := r5.since hx
                                have u5 := u5.since hx
                                have r7 := r7.since hx
                                have u7 := u7.since hx
                                have r9 := r9.since hx
                                have u9 := u9.since hx
                                have r11 := r11.since hx
                                have u11 := u11.since hx
                                have r13 := r13.since hx
                                have u13 := u13.since hx
                                have r14 := r14.since hx
                                have u14 := u14.since hx
                                clear hx
                                try simp only [Act.put, List.setIfInBounds_toArray, List.set_cons_zero, List.set_cons_succ]
                                as_aux_lemma =>
                                  refine Reg.wpG_ready (rs := [79]) (by kernel_rfl) (by simp) (fun wq16 k16' sq16 => ?_)
                                  have hr0 := hr0.trans k16'
                                  have r5 := r5.since k16'
                                  have u5 := u5.since k16'
                                  have r7 := r7.since k16'
                                  have u7 := u7.since k16'
                                  have r9 := r9.since k16'
                                  have u9 := u9.since k16'
                                  have r11 := r11.since k16'
                                  have u11 := u11.since k16'
                                  have r13 := r13.since k16'
                                  have u13 := u13.since k16'
                                  have r14 := r14.since k16'
                                  have u14 := u14.since k16'
                                  have r15 := r15.since k16'
                                  have u15 := u15.since k16'
                                  refine Reg.AllG.first (o := { dst := some 123, op := Op.call { callee := Callee.value (Operand.tmp 120), args := #[Operand.tmp 121, Operand.tmp 122], argTypes := #[31, 31] }, type := 31, pos := "law.go:119", after := #[{ on := 76, ground := Ground.data }, { on := 77, ground := Ground.data }, { on := 78, ground := Ground.data }, { on := 75, ground := Ground.chain }, { on := 62, ground := Ground.guard }], guard := some (62, false) }) rfl (by rfl) (fun K hK => ?_) Reg.AllG.nil
                                  obtain ⟨o0a, o0b, o0c, o0d, o1a, o1b, o1c, o1d, o2a, o2b, o2c, o2d⟩ := hall.out _ hr0
                                  go_simp
                                  (with_reducible refine (Law04.mulc_any a1 ad1 a2 ad2 cap1 cp1 cap2 cp2 b1 sg1 b2 sg2 p1 q1 p2 q2 wq16 (P1.out.since (hS0.trans (hS.trans hr0))) (Q1.out.since (hS0.trans (hS.trans hr0))) (P2.out.since (hS0.trans (hS.trans hr0))) (Q2.out.since (hS0.trans (hS.trans hr0))) (by have := FW.out; omega) (by have := FW.out; omega) (by have := FW.out; omega) (by have := FW.out; omega) EM6.out).mono ?_)
                                  rintro e z116 ⟨X16, x16, Y16, y16, rfl, r16, u16, hx⟩
                                  refine hK.out _ _ ?_ hx ?_
                                  · exact hall.out _ (hr0.trans hx)
                                  clear hK K o0a o0b o0c o0d o1a o1b o1c o1d o2a o2b o2c o2d
                                  have hr0 := hr0.trans hx
                                  have r5 := r5.since hx
                                  have u5 := u5.since hx
                                  have r7 := r7.since hx
                                  have u7 := u7.since hx
                                  have r9 := r9.since hx
                                  have u9 := u9.since hx
                                  have r11 := r11.since hx
                                  have u11 := u11.since hx
                                  have r13 := r13.since hx
                                  have u13 := u13.since hx
                                  have r14 := r14.since hx
                                  have u14 := u14.since hx
                                  have r15 := r15.since hx
                                  have u15 := u15.since hx
                                  clear hx
                                  try simp only [Act.put, List.setIfInBounds_toArray, List.set_cons_zero, List.set_cons_succ]
                                  as_aux_lemma =>
                                    refine Reg.wpG_ready (rs := [80]) (by kernel_rfl) (by simp) (fun wq17 k17' sq17 => ?_)
                                    have hr0 := hr0.trans k17'
                                    have r5 := r5.since k17'
                                    have u5 := u5.since k17'
                                    have r7 := r7.since k17'
                                    have u7 := u7.since k17'
                                    have r9 := r9.since k17'
                                    have u9 := u9.since k17'
                                    have r11 := r11.since k17'
                                    have u11 := u11.since k17'
                                    have r13 := r13.since k17'
                                    have u13 := u13.since k17'
                                    have r14 := r14.since k17'
                                    have u14 := u14.since k17'
                                    have r15 := r15.since k17'
                                    have u15 := u15.since k17'
                                    have r16 := r16.since k17'
                                    have u16 := u16.since k17'
                                    refine Reg.AllG.first (o := { dst := some 124, op := Op.call { callee := Callee.value (Operand.tmp 115), args := #[Operand.tmp 119, Operand.tmp 123], argTypes := #[31, 31] }, type := 31, pos := "law.go:119", after := #[{ on := 71, ground := Ground.data }, { on := 75, ground := Ground.data }, { on := 79, ground := Ground.data }, { on := 79, ground := Ground.chain }, { on := 62, ground := Ground.guard }], guard := some (62, false) }) rfl (by rfl) (fun K hK => ?_) Reg.AllG.nil
                                    obtain ⟨o0a, o0b, o0c, o0d, o1a, o1b, o1c, o1d, o2a, o2b, o2c, o2d⟩ := hall.out _ hr0
                                    go_simp
                                    (with_reducible refine (Law04.addc_any X15 Y15 X16 Y16 x15 y15 x16 y16 (nf 8) (mf 8) (nf 6) (mf 6) (sf 8) (tf 8) (sf 6) (tf 6) wq17 (r15) (u15) (r16) (u16) (by have := LEN.out 8; omega) (by have := LEN.out 8; omega) (by have := LEN.out 6; omega) (by have := LEN.out 6; omega) EA9.out).mono ?_)
                                    rintro e z117 ⟨X17, x17, Y17, y17, rfl, r17, u17, hx⟩
                                    refine hK.out _ _ ?_ hx ?_
                                    · exact hall.out _ (hr0.trans hx)
                                    clear hK K o0a o0b o0c o0d o1a o1b o1c o1d o2a o2b o2c o2d
                                    have hr0 := hr0.trans hx
                                    have r5 := r5.since hx
                                    have u5 := u5.since hx
                                    have r7 := r7.since hx
                                    have u7 := u7.since hx
                                    have r9 := r9.since hx
                                    have u9 := u9.since hx
                                    have r11 := r11.since hx
                                    have u11 := u11.since hx
                                    have r13 := r13.since hx
                                    have u13 := u13.since hx
                                    have r14 := r14.since hx
                                    have u14 := u14.since hx
                                    have r15 := r15.since hx
                                    have u15 := u15.since hx
                                    have r16 := r16.since hx
                                    have u16 := u16.since hx
                                    clear hx
                                    try simp only [Act.put, List.setIfInBounds_toArray, List.set_cons_zero, List.set_cons_succ]
                                    as_aux_lemma =>
                                      refine Reg.wpG_take (i := 81) (oi := { dst := some 125, op := Op.call { callee := Callee.value (Operand.tmp 107), args := #[Operand.tmp 114, Operand.tmp 124], argTypes := #[31, 31] }, type := 4, pos := "law.go:119", after := #[{ on := 63, ground := Ground.data }, { on := 70, ground := Ground.data }, { on := 80, ground := Ground.data }, { on := 80, ground := Ground.chain }, { on := 62, ground := Ground.guard }], guard := some (62, false) }) (v := .bool true) [82, 83] [] rfl rfl (by kernel_rfl) (by kernel_rfl) (by kernel_rfl) (by kernel_rfl) (by kernel_rfl) (by kernel_rfl) (by kernel_rfl) (fun _ _ _ h => h) (Or.inl ⟨by rfl, Or.inr ⟨34, #[.agg #[.bool (nf 7), .slice X14 (sf 7).length x14, .bool (mf 7), .slice Y14 (tf 7).length y14], .agg #[.bool (nf 7), .slice X17 (sf 7).length x17, .bool (mf 7), .slice Y17 (tf 7).length y17]], fun w' kk ss => ⟨?_, ?_⟩⟩⟩) ?_
                                      · (try dsimp only at ss); go_simp
                                      · exact (Law04.samec_any X14 Y14 X17 Y17 x14 y14 x17 y17 (nf 7) (mf 7) (sf 7) (tf 7) w' (r14.since kk) (u14.since kk) (r17.since kk) (u17.since kk) (by have := LEN.out 7; omega) (by have := LEN.out 7; omega) (RG.out 7)).mono fun e w'' h => ⟨h.1, h.2, hall.out _ (hr0.trans (kk.trans h.2))⟩
                                      try simp only [Act.put, List.setIfInBounds_toArray, List.set_cons_zero, List.set_cons_succ]
                                      refine' Reg.wpG_take (i := 82) (oi := { dst := some 126, op := Op.unOp UnOp.not 4 (Operand.tmp 125), type := 4, pos := "law.go:119", after := #[{ on := 81, ground := Ground.data }, { on := 62, ground := Ground.guard }], guard := some (62, false) }) (v := _) [83] [] rfl rfl (by kernel_rfl) (by kernel_rfl) (by kernel_rfl) (by kernel_rfl) (by kernel_rfl) (by kernel_rfl) (by kernel_rfl) (fun _ _ _ h => h) (Or.inl ⟨by rfl, Or.inl ?hy64⟩) ?rest64
                                      case hy64 => (intro w' kk ss; (try dsimp only at ss); go_simp; first | done | with_reducible rfl)
                                      try simp only [Act.put, List.setIfInBounds_toArray, List.set_cons_zero, List.set_cons_succ]
                                      refine' Reg.wpG_take (i := 83) (oi := { dst := some 127, op := Op.pick (Operand.tmp 106) (Operand.const (Value.bool true)) (Operand.tmp 126), type := 4, pos := "law.go:119", after := #[{ on := 62, ground := Ground.data }, { on := 82, ground := Ground.data }], guard := none }) (v := _) [] [] rfl rfl (by kernel_rfl) (by kernel_rfl) (by kernel_rfl) (by kernel_rfl) (by kernel_rfl) (by kernel_rfl) (by kernel_rfl) (fun _ _ _ h => h) (Or.inl ⟨by rfl, Or.inl ?hy65⟩) ?rest65
                                      case hy65 => (intro w' kk ss; (try dsimp only at ss); go_simp; first | done | with_reducible rfl)
                                      try simp only [Act.put, List.setIfInBounds_toArray, List.set_cons_zero, List.set_cons_succ]
                                      refine Reg.wpG_done (by kernel_rfl) (fun we ke se => ?_) _
                                      refine NoPanic.normal ?_
                                      have hB := hr0.trans ke
                                      clear hr0 ke se
                                      as_aux_lemma =>
                                        obtain ⟨n9, s9, m9, t9, e9, E9⟩ := parts5 (divR ((b0, p0), (sg0, q0)) ((b1, p1), (sg1, q1)))
                                        have E9 := Lib.hid E9
                                        have hK := Since.refl we
                                        have hS := hS.trans hB
                                        have V0 : Hid (∀ W', Since we W' → _) := fun W' h => V0.out W' (hB.trans h)
                                        have V1 : Hid (∀ W', Since we W' → _) := fun W' h => V1.out W' (hB.trans h)
                                        have V2 : Hid (∀ W', Since we W' → _) := fun W' h => V2.out W' (hB.trans h)
                                        clear hB hall
                                        obtain ⟨v0a, v0b, v0c, v0d⟩ := (V0.out _ hK).four
                                        obtain ⟨v1a, v1b, v1c, v1d⟩ := (V1.out _ hK).four
                                        go_upto_region 12 with (first
                                          | (go_at_call 22; (with_reducible refine ((Sr04.div_any a0 ad0 a1 ad1 cap0 cp0 cap1 cp1 b0 sg0 b1 sg1 p0 q0 p1 q1 _ (P0.out.since (hS0.trans (hS.trans hK))) (Q0.out.since (hS0.trans (hS.trans hK))) (P1.out.since (hS0.trans (hS.trans hK))) (Q1.out.since (hS0.trans (hS.trans hK))) (by have := FW.out; omega) (by have := FW.out; omega) (by have := FW.out; omega) (by have := FW.out; omega)).mono fun _ _ h => RetF.at E9.out h).mono ?_); rintro e w9 ⟨X9, x9, Y9, y9, rfl, r9, u9, h⟩; have hK := hK.trans h))
                                        have hD := hK
                                        obtain ⟨wd, hwd⟩ : ∃ x, x = w9.alloc (.cells #[.bool n9, .slice X9 s9.length x9, .bool m9, .slice Y9 t9.length y9] 31) := ⟨_, rfl⟩
                                        rw [← hwd]
                                        have hx : Since w9 wd := by rw [hwd]; exact since_alloc _ _
                                        have V9 : Hid (∀ W', Since wd W' → Bx W' w9.heap.size #[.bool n9, .slice X9 s9.length x9, .bool m9, .slice Y9 t9.length y9] 31) := fun W' h => Bx.new (hwd ▸ h) (by simp)
                                        have r9 := r9.since hx
                                        have u9 := u9.since hx
                                        have hg := hK.trans hx
                                        have hS := hS.trans hg
                                        have V0 : Hid (∀ W', Since wd W' → _) := fun W' h => V0.out W' (hg.trans h)
                                        have V1 : Hid (∀ W', Since wd W' → _) := fun W' h => V1.out W' (hg.trans h)
                                        have V2 : Hid (∀ W', Since wd W' → _) := fun W' h => V2.out W' (hg.trans h)
                                        clear hwd hx hg hK hD
                                        generalize w9.heap.size = c9 at *
                                        have hK := Since.refl wd
                                        obtain ⟨B0, B1, B2⟩ := hbx.out _ (hS.trans hK)
                                        obtain ⟨k1a, k1b, k1c, k1d⟩ := B1.four
                                        by_cases h0 : p1.length = 0
                                        · have e := E9.out.symm.trans (ED0.out h0)
                                          obtain rfl : e9 = 2 := congrArg Prod.snd e
                                          have hz : ((p1.length : Int) == 0) = true := by rw [beq_iff_eq]; omega
                                          clear h0 e
                                          go_wp2_with fail
                                          go_ret
                                          exact ⟨rfl, hS0.trans (hS.trans hK)⟩
                                        have hz : ((p1.length : Int) == 0) = false := by rw [beq_eq_false_iff_ne]; omega
                                        obtain ⟨ED2, ED3⟩ := ED1.out h0
                                        have e := E9.out.symm.trans ED2
                                        have e1 := congrArg Prod.fst e
                                        obtain rfl : e9 = 0 := congrArg Prod.snd e
                                        obtain rfl : n9 = nf 9 := congrArg (fun z => z.1.1) e1
                                        obtain rfl : s9 = sf 9 := congrArg (fun z => z.1.2) e1
                                        obtain rfl : m9 = mf 9 := congrArg (fun z => z.2.1) e1
                                        obtain rfl : t9 = tf 9 := congrArg (fun z => z.2.2) e1
                                        have ED3 := Lib.hid (show mulR ((nf 9, sf 9), (mf 9, tf 9)) ((b1, p1), (sg1, q1)) = (((b0, p0), (sg0, q0)), 0) from ED3)
                                        clear h0 e e1 ED2 B0 B1 B2
                                        go_upto_region 14 with fail
                                        have hall : Hid (∀ W : World, Since wd W → W.cell? ⟨c0, 0, none⟩ = some (.bool b0) ∧ W.cell? ⟨c0, 1, none⟩ = some (.slice a0 p0.length cap0) ∧ W.cell? ⟨c0, 2, none⟩ = some (.bool sg0) ∧ W.cell? ⟨c0, 3, none⟩ = some (.slice ad0 q0.length cp0) ∧ W.cell? ⟨c1, 0, none⟩ = some (.bool b1) ∧ W.cell? ⟨c1, 1, none⟩ = some (.slice a1 p1.length cap1) ∧ W.cell? ⟨c1, 2, none⟩ = some (.bool sg1) ∧ W.cell? ⟨c1, 3, none⟩ = some (.slice ad1 q1.length cp1) ∧ W.cell? ⟨c9, 0, none⟩ = some (.bool (nf 9)) ∧ W.cell? ⟨c9, 1, none⟩ = some (.slice X9 (sf 9).length x9) ∧ W.cell? ⟨c9, 2, none⟩ = some (.bool (mf 9)) ∧ W.cell? ⟨c9, 3, none⟩ = some (.slice Y9 (tf 9).length y9)) := fun W h => by
                                          obtain ⟨v0a, v0b, v0c, v0d⟩ := (V0.out _ h).four
                                          obtain ⟨v1a, v1b, v1c, v1d⟩ := (V1.out _ h).four
                                          obtain ⟨v9a, v9b, v9c, v9d⟩ := (V9.out _ h).four
                                          exact ⟨v0a, v0b, v0c, v0d, v1a, v1b, v1c, v1d, v9a, v9b, v9c, v9d⟩
                                        have hr0 : Since wd wd.drew := Since.drew (Since.refl wd)
                                        have r9 := r9.since hr0
                                        have u9 := u9.since hr0
                                        refine wp_region_noPanic ?_
                                        refine Reg.wp_region_G (S := fun W => W.cell? ⟨c0, 0, none⟩ = some (.bool b0) ∧ W.cell? ⟨c0, 1, none⟩ = some (.slice a0 p0.length cap0) ∧ W.cell? ⟨c0, 2, none⟩ = some (.bool sg0) ∧ W.cell? ⟨c0, 3, none⟩ = some (.slice ad0 q0.length cp0) ∧ W.cell? ⟨c1, 0, none⟩ = some (.bool b1) ∧ W.cell? ⟨c1, 1, none⟩ = some (.slice a1 p1.length cap1) ∧ W.cell? ⟨c1, 2, none⟩ = some (.bool sg1) ∧ W.cell? ⟨c1, 3, none⟩ = some (.slice ad1 q1.length cp1) ∧ W.cell? ⟨c9, 0, none⟩ = some (.bool (nf 9)) ∧ W.cell? ⟨c9, 1, none⟩ = some (.slice X9 (sf 9).length x9) ∧ W.cell? ⟨c9, 2, none⟩ = some (.bool (mf 9)) ∧ W.cell? ⟨c9, 3, none⟩ = some (.slice Y9 (tf 9).length y9)) (fun j => [].contains j) (by kernel_rfl) ?_ ?_
                                        · exact hall.out _ hr0
                                        refine' Reg.wpG_take (i := 0) (oi := { dst := some 141, op := Op.move (Operand.tmp 14), type := 32, pos := "law.go:126", after := #[], guard := none }) (v := _) [1, 2, 3, 4, 5, 6, 7, 8, 9, 10, 11] [] rfl rfl (by kernel_rfl) (by kernel_rfl) (by kernel_rfl) (by kernel_rfl) (by kernel_rfl) (by kernel_rfl) (by kernel_rfl) (fun _ _ _ h => h) (Or.inl ⟨by rfl, Or.inl ?hy66⟩) ?rest66
                                        case hy66 => (intro w' kk ss; (try dsimp only at ss); go_simp; first | done | with_reducible rfl)
                                        try simp only [Act.put, List.setIfInBounds_toArray, List.set_cons_zero, List.set_cons_succ]
                                        refine' Reg.wpG_take (i := 1) (oi := { dst := some 142, op := Op.binOp BinOp.eql 32 (Operand.tmp 141) (Operand.const (Value.int IntKind.i64 0)) 32, type := 4, pos := "law.go:126", after := #[{ on := 0, ground := Ground.data }], guard := none }) (v := _) [2, 3, 4, 5, 6, 7, 8, 9, 10, 11] [] rfl rfl (by kernel_rfl) (by kernel_rfl) (by kernel_rfl) (by kernel_rfl) (by kernel_rfl) (by kernel_rfl) (by kernel_rfl) (fun _ _ _ h => h) (Or.inl ⟨by rfl, Or.inl ?hy67⟩) ?rest67
                                        case hy67 => (intro w' kk ss; (try dsimp only at ss); go_simp; first | done | with_reducible rfl)
                                        try simp only [Act.put, List.setIfInBounds_toArray, List.set_cons_zero, List.set_cons_succ]
                                        refine' Reg.wpG_take (i := 2) (oi := { dst := some 143, op := Op.move (Operand.tmp 142), type := 4, pos := "law.go:126", after := #[{ on := 1, ground := Ground.data }], guard := none }) (v := _) [3, 4, 5, 6, 7, 8, 9, 10, 11] [] rfl rfl (by kernel_rfl) (by kernel_rfl) (by kernel_rfl) (by kernel_rfl) (by kernel_rfl) (by kernel_rfl) (by kernel_rfl) (fun _ _ _ h => h) (Or.inl ⟨by rfl, Or.inl ?hy68⟩) ?rest68
                                        case hy68 => (intro w' kk ss; (try dsimp only at ss); go_simp; first | done | with_reducible rfl)
                                        try simp only [Act.put, List.setIfInBounds_toArray, List.set_cons_zero, List.set_cons_succ]
                                        refine' Reg.wpG_take (i := 3) (oi := { dst := some 144, op := Op.move (Operand.tmp 12), type := 58, pos := "law.go:126", after := #[{ on := 2, ground := Ground.guard }], guard := some (2, true) }) (v := _) [9, 10, 11] [] rfl rfl (by kernel_rfl) (by kernel_rfl) (by kernel_rfl) (by kernel_rfl) (by kernel_rfl) (by kernel_rfl) (by kernel_rfl) (fun _ _ _ h => h) (Or.inl ⟨by rfl, Or.inl ?hy69⟩) ?rest69
                                        case hy69 => (intro w' kk ss; (try dsimp only at ss); go_simp; first | done | with_reducible rfl)
                                        try simp only [Act.put, List.setIfInBounds_toArray, List.set_cons_zero, List.set_cons_succ]
                                        refine' Reg.wpG_take (i := 4) (oi := { dst := some 145, op := Op.move (Operand.tmp 11), type := 56, pos := "law.go:126", after := #[{ on := 2, ground := Ground.guard }], guard := some (2, true) }) (v := _) [7, 9, 10, 11] [] rfl rfl (by kernel_rfl) (by kernel_rfl) (by kernel_rfl) (by kernel_rfl) (by kernel_rfl) (by kernel_rfl) (by kernel_rfl) (fun _ _ _ h => h) (Or.inl ⟨by rfl, Or.inl ?hy70⟩) ?rest70
                                        case hy70 => (intro w' kk ss; (try dsimp only at ss); go_simp; first | done | with_reducible rfl)
                                        try simp only [Act.put, List.setIfInBounds_toArray, List.set_cons_zero, List.set_cons_succ]
                                        refine' Reg.wpG_take (i := 5) (oi := { dst := some 146, op := Op.load 31 (Operand.tmp 13), type := 31, pos := "law.go:126", after := #[{ on := 2, ground := Ground.guard }], guard := some (2, true) }) (v := _) [7, 9, 10, 11] [] rfl rfl (by kernel_rfl) (by kernel_rfl) (by kernel_rfl) (by kernel_rfl) (by kernel_rfl) (by kernel_rfl) (by kernel_rfl) (fun _ _ _ h => h) (Or.inl ⟨by rfl, Or.inl ?hy71⟩) ?rest71
                                        case hy71 => (intro w' kk ss; (try dsimp only at ss); go_simp; first | done | with_reducible rfl)
                                        try simp only [Act.put, List.setIfInBounds_toArray, List.set_cons_zero, List.set_cons_succ]
                                        refine' Reg.wpG_take (i := 6) (oi := { dst := some 147, op := Op.load 31 (Operand.tmp 8), type := 31, pos := "law.go:126", after := #[{ on := 2, ground := Ground.guard }], guard := some (2, true) }) (v := _) [7, 9, 10, 11] [] rfl rfl (by kernel_rfl) (by kernel_rfl) (by kernel_rfl) (by kernel_rfl) (by kernel_rfl) (by kernel_rfl) (by kernel_rfl) (fun _ _ _ h => h) (Or.inl ⟨by rfl, Or.inl ?hy72⟩) ?rest72
                                        case hy72 => (intro w' kk ss; (try dsimp only at ss); go_simp; first | done | with_reducible rfl)
                                        try simp only [Act.put, List.setIfInBounds_toArray, List.set_cons_zero, List.set_cons_succ]
                                        refine' Reg.wpG_take (i := 8) (oi := { dst := some 149, op := Op.load 31 (Operand.tmp 7), type := 31, pos := "law.go:126", after := #[{ on := 2, ground := Ground.guard }], guard := some (2, true) }) (v := _) [9, 10, 11] [] rfl rfl (by kernel_rfl) (by kernel_rfl) (by kernel_rfl) (by kernel_rfl) (by kernel_rfl) (by kernel_rfl) (by kernel_rfl) (fun _ _ _ h => h) (Or.inl ⟨by rfl, Or.inl ?hy73⟩) ?rest73
                                        case hy73 => (intro w' kk ss; (try dsimp only at ss); go_simp; first | done | with_reducible rfl)
                                        try simp only [Act.put, List.setIfInBounds_toArray, List.set_cons_zero, List.set_cons_succ]
                                        refine Reg.wpG_ready (rs := [7]) (by kernel_rfl) (by simp) (fun wq k' sq => ?_)
                                        have hr0 := hr0.trans k'
                                        have r9 := r9.since k'
                                        have u9 := u9.since k'
                                        refine Reg.AllG.first (o := { dst := some 148, op := Op.call { callee := Callee.value (Operand.tmp 145), args := #[Operand.tmp 146, Operand.tmp 147], argTypes := #[31, 31] }, type := 31, pos := "law.go:126", after := #[{ on := 4, ground := Ground.data }, { on := 5, ground := Ground.data }, { on := 6, ground := Ground.data }, { on := 2, ground := Ground.chain }, { on := 2, ground := Ground.guard }], guard := some (2, true) }) rfl (by rfl) (fun K hK => ?_) Reg.AllG.nil
                                        obtain ⟨o0a, o0b, o0c, o0d, o1a, o1b, o1c, o1d, o9a, o9b, o9c, o9d⟩ := hall.out _ hr0
                                        go_simp
                                        (with_reducible refine (Law04.mulc_any X9 Y9 a1 ad1 x9 y9 cap1 cp1 (nf 9) (mf 9) b1 sg1 (sf 9) (tf 9) p1 q1 wq r9 u9 (P1.out.since (hS0.trans (hS.trans hr0))) (Q1.out.since (hS0.trans (hS.trans hr0))) (by have := LEN.out 9; omega) (by have := LEN.out 9; omega) (by have := FW.out; omega) (by have := FW.out; omega) ED3.out).mono ?_)
                                        rintro e z14 ⟨X8, x8, Y8, y8, rfl, r8, u8, hx⟩
                                        refine hK.out _ _ ?_ hx ?_
                                        · exact hall.out _ (hr0.trans hx)
                                        clear hK K o0a o0b o0c o0d o1a o1b o1c o1d o9a o9b o9c o9d
                                        have hr0 := hr0.trans hx
                                        clear hx
                                        try simp only [Act.put, List.setIfInBounds_toArray, List.set_cons_zero, List.set_cons_succ]
                                        refine Reg.wpG_take (i := 9) (oi := { dst := some 150, op := Op.call { callee := Callee.value (Operand.tmp 144), args := #[Operand.tmp 148, Operand.tmp 149], argTypes := #[31, 31] }, type := 4, pos := "law.go:126", after := #[{ on := 3, ground := Ground.data }, { on := 7, ground := Ground.data }, { on := 8, ground := Ground.data }, { on := 7, ground := Ground.chain }, { on := 2, ground := Ground.guard }], guard := some (2, true) }) (v := .bool true) [10, 11] [] rfl rfl (by kernel_rfl) (by kernel_rfl) (by kernel_rfl) (by kernel_rfl) (by kernel_rfl) (by kernel_rfl) (by kernel_rfl) (fun _ _ _ h => h) (Or.inl ⟨by rfl, Or.inr ⟨34, #[.agg #[.bool b0, .slice X8 p0.length x8, .bool sg0, .slice Y8 q0.length y8], .agg #[.bool b0, .slice a0 p0.length cap0, .bool sg0, .slice ad0 q0.length cp0]], fun w' kk ss => ⟨?_, ?_⟩⟩⟩) ?_
                                        · (try dsimp only at ss); go_simp
                                        · exact (Law04.samec_any X8 Y8 a0 ad0 x8 y8 cap0 cp0 b0 sg0 p0 q0 w' (r8.since kk) (u8.since kk) (P0.out.since (hS0.trans (hS.trans (hr0.trans kk)))) (Q0.out.since (hS0.trans (hS.trans (hr0.trans kk)))) (by have := FW.out; omega) (by have := FW.out; omega) G0.out).mono fun e w'' h => ⟨h.1, h.2, hall.out _ (hr0.trans (kk.trans h.2))⟩
                                        try simp only [Act.put, List.setIfInBounds_toArray, List.set_cons_zero, List.set_cons_succ]
                                        refine' Reg.wpG_take (i := 10) (oi := { dst := some 151, op := Op.pick (Operand.tmp 143) (Operand.tmp 150) (Operand.const (Value.bool false)), type := 4, pos := "law.go:126", after := #[{ on := 2, ground := Ground.data }, { on := 9, ground := Ground.data }], guard := none }) (v := _) [11] [] rfl rfl (by kernel_rfl) (by kernel_rfl) (by kernel_rfl) (by kernel_rfl) (by kernel_rfl) (by kernel_rfl) (by kernel_rfl) (fun _ _ _ h => h) (Or.inl ⟨by rfl, Or.inl ?hy74⟩) ?rest74
                                        case hy74 => (intro w' kk ss; (try dsimp only at ss); go_simp; first | done | with_reducible rfl)
                                        try simp only [Act.put, List.setIfInBounds_toArray, List.set_cons_zero, List.set_cons_succ]
                                        refine' Reg.wpG_take (i := 11) (oi := { dst := some 6, op := Op.assign (Operand.tmp 151), type := 4, pos := "law.go:126", after := #[{ on := 10, ground := Ground.data }, { on := 9, ground := Ground.chain }, { on := 0, ground := Ground.phase }, { on := 1, ground := Ground.phase }, { on := 2, ground := Ground.phase }, { on := 3, ground := Ground.phase }, { on := 4, ground := Ground.phase }, { on := 5, ground := Ground.phase }, { on := 6, ground := Ground.phase }, { on := 7, ground := Ground.phase }, { on := 8, ground := Ground.phase }, { on := 9, ground := Ground.phase }, { on := 10, ground := Ground.phase }], guard := none }) (v := _) [] [] rfl rfl (by kernel_rfl) (by kernel_rfl) (by kernel_rfl) (by kernel_rfl) (by kernel_rfl) (by kernel_rfl) (by kernel_rfl) (fun _ _ _ h => h) (Or.inl ⟨by rfl, Or.inl ?hy75⟩) ?rest75
                                        case hy75 => (intro w' kk ss; (try dsimp only at ss); go_simp; first | done | with_reducible rfl)
                                        try simp only [Act.put, List.setIfInBounds_toArray, List.set_cons_zero, List.set_cons_succ]
                                        refine Reg.wpG_done (by kernel_rfl) (fun wf ke se => ?_) _
                                        refine NoPanic.normal ?_
                                        go_wp2_with fail
                                        go_ret
                                        exact ⟨rfl, hS0.trans (hS.trans (hr0.trans ke))⟩

set_option maxRecDepth 100000 in
theorem lifted (os : Os) (started : os.Started) (H : Type) (enc : TypeId × Value → H) :
    ReturnsInHanded {} Tryz.checked os 6 .any (fun w args => (Rows.ratioLawsSpec.pre enc Tryz.prog Tryz.f6 Rows.ratioLawsRow.domain false w args ∧ laidMetH Tryz.prog Rows.ratioLawsRow.laid w) ∧ sizedMet enc Tryz.prog Tryz.f6 (OpenSpec.ofChange Rows.ratioLawsSpec) false w args) (Rows.ratioLawsSpec.post enc Tryz.prog Tryz.f6 false true false false) := by
  refine returnsInHanded_of_change_and (C := Tryz.checked) (X := fun w _ => laidMetH Tryz.prog Rows.ratioLawsRow.laid w) (fun _ _ _ hh h => h.of_heap hh) own started (by kernel_rfl) Tryz.func6
    (ChangeSpec.witness_shaped (enc := enc) (C := Tryz.checked) (os := os) (X := fun w _ => laidMetH Tryz.prog Rows.ratioLawsRow.laid w) false (World.laidAll Tryz.prog os Rows.ratioLawsRow.laid) #[.agg #[.bool false, .slice none 0 0, .bool false, .slice none 0 0], .agg #[.bool false, .slice none 0 0, .bool false, .slice none 0 0], .agg #[.bool false, .slice none 0 0, .bool false, .slice none 0 0]] 8 (World.laidAll_os _ _ _)
      (World.shaped_of_ZipB (by kernel_rfl) (by kernel_rfl)) (by kernel_rfl) (by kernel_rfl) (by kernel_rfl)
      (by rw [MakeChecks.laidMetH_plain _ _ _ (by kernel_rfl)]; exact laidMet_laidAll _ (by kernel_rfl) (by kernel_rfl))) ?_
  intro W base args ds gs before hval0 hW hcnd _ _ _
  have hval : ∀ (j : Nat) t v, Tryz.f6.params[j]? = some t → args[j]? = some v → Value.okWide Tryz.prog W .any base t v := hval0
  have hW' := hW
  obtain ⟨p, q, hA0, hV, rfl, hfz, hnd⟩ := hW
  have hA : DataW.TrodAll enc Tryz.prog W 0 (fun _ => true) true Tryz.f6.params.toList args.toList ds p := hA0
  rw [Tryz.params6] at hA hval
  obtain ⟨v0, vs0, d0, ds0, p0, q0, hargs, rfl, rfl, h0, r0⟩ := trodAll_cons hA
  obtain ⟨v1, vs1, d1, ds1, p1, q1, rfl, rfl, rfl, h1, r1⟩ := trodAll_cons r0
  obtain ⟨v2, vs2, d2, ds2, p2, q2, rfl, rfl, rfl, h2, r2⟩ := trodAll_cons r1
  obtain ⟨rfl, rfl, rfl⟩ := trodAll_nil r2
  obtain rfl : args = #[v0, v1, v2] := by cases args; simp_all
  obtain ⟨rfl, rfl⟩ := trodVars_none hV
  have k0 := h0
  have lt0 : ∀ x ∈ p0, x.block < W.heap.size := by obtain ⟨m, hm⟩ := k0; exact DataW.trod_lt m _ _ _ hm
  obtain ⟨cb0, cm0, ce0, cr0, yb0, ym0, ye0, yr0, nn0, mm0, rfl, hb0, hm0, he0, hr0⟩ := open_rat Tryz.underlying26 Tryz.underlying24 Tryz.underlying24 rfl rfl cells26 cells24 cells24 (by kernel_rfl) (hval 0 26 v0 rfl rfl) h0
  obtain ⟨b0, ebb0, xbb0⟩ := DataW.trod_bool Tryz.underlying4 hb0
  simp at ebb0
  subst ebb0
  obtain ⟨sg0, ebsg0, xbsg0⟩ := DataW.trod_bool Tryz.underlying4 he0
  simp at ebsg0
  subst ebsg0
  obtain ⟨a0, len0, cap0, em0⟩ := slice_form Tryz.underlying22 hm0
  simp at em0
  subst em0
  obtain ⟨ad0, ln0, cp0, er0⟩ := slice_form Tryz.underlying22 hr0
  simp at er0
  subst er0
  obtain ⟨z0, w0⟩ : ∃ zs, IsRow .u32 W a0 len0 cap0 zs := by
    have hf := hm0
    rcases open_ints Tryz.underlying22 Tryz.underlying88 (by kernel_rfl) hf with ⟨hcs, _⟩ | ⟨x, l, c, zs, hcs, _, hl, hm, hz, _, hcell, hwz⟩
    · simp [Value.cells] at hcs
      obtain ⟨rfl, rfl, rfl⟩ := hcs
      exact ⟨[], .inl ⟨rfl, rfl, rfl, rfl⟩⟩
    · simp [Value.cells] at hcs
      obtain ⟨rfl, rfl, rfl⟩ := hcs
      exact ⟨zs, .inr ⟨_, rfl, hl, hm, by simpa using hz, hcell, hwz⟩⟩
  obtain ⟨y0, u0⟩ : ∃ zs, IsRow .u32 W ad0 ln0 cp0 zs := by
    have hf := hr0
    rcases open_ints Tryz.underlying22 Tryz.underlying88 (by kernel_rfl) hf with ⟨hcs, _⟩ | ⟨x, l, c, zs, hcs, _, hl, hm, hz, _, hcell, hwz⟩
    · simp [Value.cells] at hcs
      obtain ⟨rfl, rfl, rfl⟩ := hcs
      exact ⟨[], .inl ⟨rfl, rfl, rfl, rfl⟩⟩
    · simp [Value.cells] at hcs
      obtain ⟨rfl, rfl, rfl⟩ := hcs
      exact ⟨zs, .inr ⟨_, rfl, hl, hm, by simpa using hz, hcell, hwz⟩⟩
  have k1 := h1
  have lt1 : ∀ x ∈ p1, x.block < W.heap.size := by obtain ⟨m, hm⟩ := k1; exact DataW.trod_lt m _ _ _ hm
  obtain ⟨cb1, cm1, ce1, cr1, yb1, ym1, ye1, yr1, nn1, mm1, rfl, hb1, hm1, he1, hr1⟩ := open_rat Tryz.underlying26 Tryz.underlying24 Tryz.underlying24 rfl rfl cells26 cells24 cells24 (by kernel_rfl) (hval 1 26 v1 rfl rfl) h1
  obtain ⟨b1, ebb1, xbb1⟩ := DataW.trod_bool Tryz.underlying4 hb1
  simp at ebb1
  subst ebb1
  obtain ⟨sg1, ebsg1, xbsg1⟩ := DataW.trod_bool Tryz.underlying4 he1
  simp at ebsg1
  subst ebsg1
  obtain ⟨a1, len1, cap1, em1⟩ := slice_form Tryz.underlying22 hm1
  simp at em1
  subst em1
  obtain ⟨ad1, ln1, cp1, er1⟩ := slice_form Tryz.underlying22 hr1
  simp at er1
  subst er1
  obtain ⟨z1, w1⟩ : ∃ zs, IsRow .u32 W a1 len1 cap1 zs := by
    have hf := hm1
    rcases open_ints Tryz.underlying22 Tryz.underlying88 (by kernel_rfl) hf with ⟨hcs, _⟩ | ⟨x, l, c, zs, hcs, _, hl, hm, hz, _, hcell, hwz⟩
    · simp [Value.cells] at hcs
      obtain ⟨rfl, rfl, rfl⟩ := hcs
      exact ⟨[], .inl ⟨rfl, rfl, rfl, rfl⟩⟩
    · simp [Value.cells] at hcs
      obtain ⟨rfl, rfl, rfl⟩ := hcs
      exact ⟨zs, .inr ⟨_, rfl, hl, hm, by simpa using hz, hcell, hwz⟩⟩
  obtain ⟨y1, u1⟩ : ∃ zs, IsRow .u32 W ad1 ln1 cp1 zs := by
    have hf := hr1
    rcases open_ints Tryz.underlying22 Tryz.underlying88 (by kernel_rfl) hf with ⟨hcs, _⟩ | ⟨x, l, c, zs, hcs, _, hl, hm, hz, _, hcell, hwz⟩
    · simp [Value.cells] at hcs
      obtain ⟨rfl, rfl, rfl⟩ := hcs
      exact ⟨[], .inl ⟨rfl, rfl, rfl, rfl⟩⟩
    · simp [Value.cells] at hcs
      obtain ⟨rfl, rfl, rfl⟩ := hcs
      exact ⟨zs, .inr ⟨_, rfl, hl, hm, by simpa using hz, hcell, hwz⟩⟩
  have k2 := h2
  have lt2 : ∀ x ∈ p2, x.block < W.heap.size := by obtain ⟨m, hm⟩ := k2; exact DataW.trod_lt m _ _ _ hm
  obtain ⟨cb2, cm2, ce2, cr2, yb2, ym2, ye2, yr2, nn2, mm2, rfl, hb2, hm2, he2, hr2⟩ := open_rat Tryz.underlying26 Tryz.underlying24 Tryz.underlying24 rfl rfl cells26 cells24 cells24 (by kernel_rfl) (hval 2 26 v2 rfl rfl) h2
  obtain ⟨b2, ebb2, xbb2⟩ := DataW.trod_bool Tryz.underlying4 hb2
  simp at ebb2
  subst ebb2
  obtain ⟨sg2, ebsg2, xbsg2⟩ := DataW.trod_bool Tryz.underlying4 he2
  simp at ebsg2
  subst ebsg2
  obtain ⟨a2, len2, cap2, em2⟩ := slice_form Tryz.underlying22 hm2
  simp at em2
  subst em2
  obtain ⟨ad2, ln2, cp2, er2⟩ := slice_form Tryz.underlying22 hr2
  simp at er2
  subst er2
  obtain ⟨z2, w2⟩ : ∃ zs, IsRow .u32 W a2 len2 cap2 zs := by
    have hf := hm2
    rcases open_ints Tryz.underlying22 Tryz.underlying88 (by kernel_rfl) hf with ⟨hcs, _⟩ | ⟨x, l, c, zs, hcs, _, hl, hm, hz, _, hcell, hwz⟩
    · simp [Value.cells] at hcs
      obtain ⟨rfl, rfl, rfl⟩ := hcs
      exact ⟨[], .inl ⟨rfl, rfl, rfl, rfl⟩⟩
    · simp [Value.cells] at hcs
      obtain ⟨rfl, rfl, rfl⟩ := hcs
      exact ⟨zs, .inr ⟨_, rfl, hl, hm, by simpa using hz, hcell, hwz⟩⟩
  obtain ⟨y2, u2⟩ : ∃ zs, IsRow .u32 W ad2 ln2 cp2 zs := by
    have hf := hr2
    rcases open_ints Tryz.underlying22 Tryz.underlying88 (by kernel_rfl) hf with ⟨hcs, _⟩ | ⟨x, l, c, zs, hcs, _, hl, hm, hz, _, hcell, hwz⟩
    · simp [Value.cells] at hcs
      obtain ⟨rfl, rfl, rfl⟩ := hcs
      exact ⟨[], .inl ⟨rfl, rfl, rfl, rfl⟩⟩
    · simp [Value.cells] at hcs
      obtain ⟨rfl, rfl, rfl⟩ := hcs
      exact ⟨zs, .inr ⟨_, rfl, hl, hm, by simpa using hz, hcell, hwz⟩⟩
  clear hA0 hval0
  refine (walk b0 a0 len0 cap0 sg0 ad0 ln0 cp0 z0 y0 b1 a1 len1 cap1 sg1 ad1 ln1 cp1 z1 y1 b2 a2 len2 cap2 sg2 ad2 ln2 cp2 z2 y2 W w0 u0 w1 u1 w2 u2).mono fun e W' ⟨he, bel⟩ => ?_
  subst he
  exact ⟨_, rfl, _, _, _, [], _, [], hW', trodAll_mk1 (shut_bool Tryz.underlying4 _), (trodAll_cons_mk (Below.trod laidOut (by kernel_rfl) (of_decide_eq_true (by kernel_rfl)) k0 bel lt0) (trodAll_cons_mk (Below.trod laidOut (by kernel_rfl) (of_decide_eq_true (by kernel_rfl)) k1 bel lt1) (trodAll_cons_mk (Below.trod laidOut (by kernel_rfl) (of_decide_eq_true (by kernel_rfl)) k2 bel lt2) trodAll_mk0))), rfl, bel.frame _, fun h => by cases h⟩

theorem over : Rows.ratioLawsRow.holds Tryz.pinned (OpenSpec.ofChange Rows.ratioLawsSpec) :=
  OpenClaim.holds_of_wide 6 Tryz.f6 rfl rfl rfl rfl rfl rfl rfl ⟨rfl, rfl, rfl, rfl, rfl⟩ rfl rfl rfl rfl rfl (by kernel_rfl) Tryz.func6 (by kernel_rfl)
    (of_decide_eq_true (by kernel_rfl)) (by unfold Func.isWrapper; first | (rw [if_pos (by decide +kernel)]; kernel_rfl) | (rw [if_neg (by decide +kernel)]; exact ⟨rfl, rfl⟩))
    (fun os started H enc _ => lifted os started H enc)

/-- THE STATEMENT: the tied card -/
theorem proved : Rows.RatioLawsCardSaid :=
  Claim7.holds_tied_plain_at .later [] _ _ _ _ over (fun _ h => by cases h) (by kernel_rfl) (fun _ h => by cases h) ratioLaws_row_tie rfl ⟨rfl, rfl⟩ (by kernel_rfl) rfl
    (fun f fn hf hfn => by
      obtain rfl : f = 6 := Option.some.inj ((show Tryz.prog.funcNamed "touchstone/touchstonelaw04.RatioLaws" = some 6 by kernel_rfl).symm.trans hf) |>.symm
      obtain rfl : fn = Tryz.f6 := (Option.some.inj (Tryz.func6.symm.trans hfn)).symm
      exact ⟨by kernel_rfl, fun j t ht => by
        rw [Tryz.params6] at ht
        have hm : t ∈ [26, 26, 26] := by simpa using Array.mem_of_getElem? ht
        have hall : ([26, 26, 26].all fun u => !Tryz.prog.wantsStandIn u) = true := by kernel_rfl
        exact (show Tryz.prog.wantsStandIn t = false by simpa using List.all_eq_true.1 hall t hm)⟩)
    (by kernel_rfl)
#print axioms proved
end Go.Proofs.YtbbemgeinlehmaaGreatDoor.ratioLaws
