/-
  For all fractions a, b and c of layer 4: the law RatioOrder returns true (where each may be, and has at most 8 digits: of two one is less, or both are one; sums keep the order) and leaves them as they were. No condition.
-/
import Derived.Test.YtbbemgeinlehmaaGreatDoorRows
import Derived.Test.YtbbemgeinlehmaaGreatDoorCards
import Derived.Test.YtbbemgeinlehmaaGreatDoorTie
import Derived.LaidMore
import Derived.Lay
import Derived.SevenTiedAt
import Derived.WalkKit
import Derived.ProofKit
import Derived.OpenShut
import Derived.ShutString
import Derived.ChangeOld
import Derived.Below
import Derived.Lib.SmallJoins
import Derived.Test.YtbbemgeinlehmaaGreatDoorOpn
import Derived.Test.YtbbemgeinlehmaaGreatDoorL4a
import Derived.Test.YtbbemgeinlehmaaGreatDoorAl4
import Derived.Test.YtbbemgeinlehmaaGreatDoorSr4ad
import Derived.Test.YtbbemgeinlehmaaGreatDoorSr4cm
import Derived.Test.YtbbemgeinlehmaaGreatDoorR4s
import Derived.Test.YtbbemgeinlehmaaGreatDoorQa
import Derived.Test.YtbbemgeinlehmaaGreatDoorFw
import Derived.Test.YtbbemgeinlehmaaGreatDoorRg
import Derived.Deep.RegionHeld3
import Derived.Deep.DeepCutAuto
namespace Go.Proofs.YtbbemgeinlehmaaGreatDoor.ratioOrder
open Go.Joins Go.Proofs.YtbbemgeinlehmaaGreatDoor
open Go.ChangeShapes Go.WideShapes Go.ChangeAt Go.RowKit
open Go.ChangeMaps (open_string shut_string)
open Go.Proofs.YtbbemgeinlehmaaGreatDoor.Dig Go.Proofs.YtbbemgeinlehmaaGreatDoor.R4 Go.Proofs.YtbbemgeinlehmaaGreatDoor.Fr Go.Proofs.YtbbemgeinlehmaaGreatDoor.Ref04
open Go.Proofs.YtbbemgeinlehmaaGreatDoor.Ref03 (sv)
set_option linter.unusedVariables false
set_option linter.unusedSimpArgs false

theorem cells26 : Tryz.prog.cellsOf 26 = 4 := by kernel_rfl
theorem cells24 : Tryz.prog.cellsOf 24 = 2 := by kernel_rfl
theorem own : ownKnob Tryz.prog.godebug = none := by kernel_rfl
theorem laidOut : laidOutB Tryz.prog = true := by kernel_rfl

/-- WHAT THE WALK IS TOLD OF A SLICE OF INTEGERS THAT CAME IN: it is nil; or it leads to a row of 'cap' cells, the numbers 'zs' (the first 'len' are its elements, the rest its spare room), each fitting its kind. -/
def IsRow (k : IntKind) (w : World) (a : Option Addr) (len cap : Nat) (zs : List Int) : Prop :=
  (a = none ∧ len = 0 ∧ cap = 0 ∧ zs = []) ∨
  ∃ x, a = some x ∧ len ≤ cap ∧ cap ≤ maxLen ∧ zs.length = cap ∧ (∀ i, i < zs.length → w.cell? (x.add i) = some (.int k (zs.getD i 0))) ∧ ∀ n ∈ zs, (Lit.int k n).wf = true

theorem cmp_val {P : Program} {f : FuncId} {args : Array Value} {w : World} {r : Int × Int} {c e : Int} (ns : Calls P f args w fun x w' => x = .returned (.tuple #[.int .i64 r.1, .int .i64 r.2]) ∧ Since w w') (h : r = (c, e)) :
    Calls P f args w fun x w' => x = .returned (.tuple #[.int .i64 c, .int .i64 e]) ∧ Since w w' := by
  subst h; exact ns
theorem same_val {P : Program} {f : FuncId} {args : Array Value} {w : World} {r c : Bool} (ns : Calls P f args w fun x w' => x = .returned (.bool r) ∧ Since w w') (h : r = c) :
    Calls P f args w fun x w' => x = .returned (.bool c) ∧ Since w w' := by
  subst h; exact ns
theorem sameF_eq (a b : Fz) : sameF a b = decide (a = b) := by
  obtain ⟨⟨n1, s1⟩, n2, s2⟩ := a
  obtain ⟨⟨m1, t1⟩, m2, t2⟩ := b
  rw [Bool.eq_iff_iff]
  simp [sameF, sameB, and_assoc]

set_option maxRecDepth 100000 in
set_option maxHeartbeats 4000000 in
theorem walk (b0 : Bool) (a0 : Option Addr) (len0 cap0 : Nat) (sg0 : Bool) (ad0 : Option Addr) (ln0 cp0 : Nat) (z0 y0 : List Int) (b1 : Bool) (a1 : Option Addr) (len1 cap1 : Nat) (sg1 : Bool) (ad1 : Option Addr) (ln1 cp1 : Nat) (z1 y1 : List Int) (b2 : Bool) (a2 : Option Addr) (len2 cap2 : Nat) (sg2 : Bool) (ad2 : Option Addr) (ln2 cp2 : Nat) (z2 y2 : List Int) (w : World) (w0 : IsRow .u32 w a0 len0 cap0 z0) (u0 : IsRow .u32 w ad0 ln0 cp0 y0) (w1 : IsRow .u32 w a1 len1 cap1 z1) (u1 : IsRow .u32 w ad1 ln1 cp1 y1) (w2 : IsRow .u32 w a2 len2 cap2 z2) (u2 : IsRow .u32 w ad2 ln2 cp2 y2) :
    Calls Tryz.prog 7 #[.agg #[.bool b0, .slice a0 len0 cap0, .bool sg0, .slice ad0 ln0 cp0], .agg #[.bool b1, .slice a1 len1 cap1, .bool sg1, .slice ad1 ln1 cp1], .agg #[.bool b2, .slice a2 len2 cap2, .bool sg2, .slice ad2 ln2 cp2]] w fun e w' => e = .returned (.bool true) ∧ Since w w' := by
  obtain ⟨p0, hl0, hr0⟩ := row_in w0
  have P0 := Lib.hid hr0
  obtain ⟨q0, hm0, hs0⟩ := row_in u0
  have Q0 := Lib.hid hs0
  obtain ⟨p1, hl1, hr1⟩ := row_in w1
  have P1 := Lib.hid hr1
  obtain ⟨q1, hm1, hs1⟩ := row_in u1
  have Q1 := Lib.hid hs1
  obtain ⟨p2, hl2, hr2⟩ := row_in w2
  have P2 := Lib.hid hr2
  obtain ⟨q2, hm2, hs2⟩ := row_in u2
  have Q2 := Lib.hid hs2
  clear w0 u0 hr0 hs0 w1 u1 hr1 hs1 w2 u2 hr2 hs2
  subst hl0 hm0 hl1 hm1 hl2 hm2
  obtain ⟨W0, hW0⟩ : ∃ W0, W0 = ((w.alloc (.cells #[.bool b0, .slice a0 p0.length cap0, .bool sg0, .slice ad0 q0.length cp0] 26)).alloc (.cells #[.bool b1, .slice a1 p1.length cap1, .bool sg1, .slice ad1 q1.length cp1] 26)).alloc (.cells #[.bool b2, .slice a2 p2.length cap2, .bool sg2, .slice ad2 q2.length cp2] 26) := ⟨_, rfl⟩
  have HW := Lib.hid hW0
  have hS0 : Since w W0 := by rw [hW0]; exact (((Since.refl w).alloc _).alloc _).alloc _
  have hbx : Hid (∀ W : World, Since W0 W → Bx W (w.heap.size) #[.bool b0, .slice a0 p0.length cap0, .bool sg0, .slice ad0 q0.length cp0] 26 ∧ Bx W (w.heap.size + 1) #[.bool b1, .slice a1 p1.length cap1, .bool sg1, .slice ad1 q1.length cp1] 26 ∧ Bx W (w.heap.size + 1 + 1) #[.bool b2, .slice a2 p2.length cap2, .bool sg2, .slice ad2 q2.length cp2] 26) := fun W h => ⟨Bx.new ((since_alloc _ _).trans ((since_alloc _ _).trans (hW0 ▸ h))) (by simp), Bx.new ((since_alloc _ _).trans (hW0 ▸ h)) (by simp), Bx.new (hW0 ▸ h) (by simp)⟩
  clear hW0
  have hK := Since.refl W0
  by_cases g : (Law04.few1 ⟨b0, a0, cap0, p0, sg0, ad0, cp0, q0⟩ && (Law04.few1 ⟨b1, a1, cap1, p1, sg1, ad1, cp1, q1⟩ && (Law04.few1 ⟨b2, a2, cap2, p2, sg2, ad2, cp2, q2⟩))) = true
  rotate_left
  · have HF := Lib.hid (show (Law04.few1 ⟨b0, a0, cap0, p0, sg0, ad0, cp0, q0⟩ && (Law04.few1 ⟨b1, a1, cap1, p1, sg1, ad1, cp1, q1⟩ && (Law04.few1 ⟨b2, a2, cap2, p2, sg2, ad2, cp2, q2⟩))) = false by simpa using g)
    clear g
    go_enter Tryz.func7, Tryz.ntmps7
    go_wp2_with fail
    rw [← HW.out]
    obtain ⟨B0, B1, B2⟩ := hbx.out _ hK; obtain ⟨k0a, k0b, k0c, k0d⟩ := B0.four; obtain ⟨k1a, k1b, k1c, k1d⟩ := B1.four; obtain ⟨k2a, k2b, k2c, k2d⟩ := B2.four
    go_wp2_with (first
      | (go_at_call 9; (with_reducible refine (Alive04.alive _).mono ?_); rintro e v0 ⟨rfl, h⟩; have hK := hK.trans h; obtain ⟨B0, B1, B2⟩ := hbx.out _ hK; obtain ⟨k0a, k0b, k0c, k0d⟩ := B0.four; obtain ⟨k1a, k1b, k1c, k1d⟩ := B1.four; obtain ⟨k2a, k2b, k2c, k2d⟩ := B2.four)
      | (go_at_call 10; (with_reducible refine (Law04.few_three _ _ ⟨b0, a0, cap0, p0, sg0, ad0, cp0, q0⟩ ⟨b1, a1, cap1, p1, sg1, ad1, cp1, q1⟩ ⟨b2, a2, cap2, p2, sg2, ad2, cp2, q2⟩).mono ?_); rw [HF.out]; rintro e vf ⟨rfl, h⟩; have hK := hK.trans h; obtain ⟨B0, B1, B2⟩ := hbx.out _ hK; obtain ⟨k0a, k0b, k0c, k0d⟩ := B0.four; obtain ⟨k1a, k1b, k1c, k1d⟩ := B1.four; obtain ⟨k2a, k2b, k2c, k2d⟩ := B2.four))
    go_ret
    exact ⟨rfl, hS0.trans hK⟩
  have HF := Lib.hid g
  have FW := Lib.hid (show p0.length ≤ 8 ∧ q0.length ≤ 8 ∧ p1.length ≤ 8 ∧ q1.length ≤ 8 ∧ p2.length ≤ 8 ∧ q2.length ≤ 8 by simpa [Law04.few1, and_assoc] using g)
  clear g
  by_cases g0 : rrB ((b0, p0), (sg0, q0)) = true
  rotate_left
  · have G0 := Lib.hid (show rrB ((b0, p0), (sg0, q0)) = false by simpa using g0)
    clear g0
    go_enter Tryz.func7, Tryz.ntmps7
    go_wp2_with fail
    rw [← HW.out]
    obtain ⟨B0, B1, B2⟩ := hbx.out _ hK; obtain ⟨k0a, k0b, k0c, k0d⟩ := B0.four; obtain ⟨k1a, k1b, k1c, k1d⟩ := B1.four; obtain ⟨k2a, k2b, k2c, k2d⟩ := B2.four
    go_wp2_with (first
      | (go_at_call 9; (with_reducible refine (Alive04.alive _).mono ?_); rintro e v0 ⟨rfl, h⟩; have hK := hK.trans h; obtain ⟨B0, B1, B2⟩ := hbx.out _ hK; obtain ⟨k0a, k0b, k0c, k0d⟩ := B0.four; obtain ⟨k1a, k1b, k1c, k1d⟩ := B1.four; obtain ⟨k2a, k2b, k2c, k2d⟩ := B2.four)
      | (go_at_call 10; (with_reducible refine (Law04.few_three _ _ ⟨b0, a0, cap0, p0, sg0, ad0, cp0, q0⟩ ⟨b1, a1, cap1, p1, sg1, ad1, cp1, q1⟩ ⟨b2, a2, cap2, p2, sg2, ad2, cp2, q2⟩).mono ?_); rw [HF.out]; rintro e vf ⟨rfl, h⟩; have hK := hK.trans h; obtain ⟨B0, B1, B2⟩ := hbx.out _ hK; obtain ⟨k0a, k0b, k0c, k0d⟩ := B0.four; obtain ⟨k1a, k1b, k1c, k1d⟩ := B1.four; obtain ⟨k2a, k2b, k2c, k2d⟩ := B2.four)
      | (go_at_call 31; (with_reducible refine ((Ref04.right_any a0 ad0 cap0 cp0 b0 sg0 p0 q0 _ (P0.out.since (hS0.trans hK)) (Q0.out.since (hS0.trans hK)) (by have := FW.out; omega) (by have := FW.out; omega))).mono ?_); rw [G0.out]; rintro e w1 ⟨rfl, h⟩; have hK := hK.trans h; obtain ⟨B0, B1, B2⟩ := hbx.out _ hK; obtain ⟨k0a, k0b, k0c, k0d⟩ := B0.four; obtain ⟨k1a, k1b, k1c, k1d⟩ := B1.four; obtain ⟨k2a, k2b, k2c, k2d⟩ := B2.four))
    go_ret
    exact ⟨rfl, hS0.trans hK⟩
  have G0 := Lib.hid g0
  by_cases g1 : rrB ((b1, p1), (sg1, q1)) = true
  rotate_left
  · have G1 := Lib.hid (show rrB ((b1, p1), (sg1, q1)) = false by simpa using g1)
    clear g0 g1
    go_enter Tryz.func7, Tryz.ntmps7
    go_wp2_with fail
    rw [← HW.out]
    obtain ⟨B0, B1, B2⟩ := hbx.out _ hK; obtain ⟨k0a, k0b, k0c, k0d⟩ := B0.four; obtain ⟨k1a, k1b, k1c, k1d⟩ := B1.four; obtain ⟨k2a, k2b, k2c, k2d⟩ := B2.four
    go_wp2_with (first
      | (go_at_call 9; (with_reducible refine (Alive04.alive _).mono ?_); rintro e v0 ⟨rfl, h⟩; have hK := hK.trans h; obtain ⟨B0, B1, B2⟩ := hbx.out _ hK; obtain ⟨k0a, k0b, k0c, k0d⟩ := B0.four; obtain ⟨k1a, k1b, k1c, k1d⟩ := B1.four; obtain ⟨k2a, k2b, k2c, k2d⟩ := B2.four)
      | (go_at_call 10; (with_reducible refine (Law04.few_three _ _ ⟨b0, a0, cap0, p0, sg0, ad0, cp0, q0⟩ ⟨b1, a1, cap1, p1, sg1, ad1, cp1, q1⟩ ⟨b2, a2, cap2, p2, sg2, ad2, cp2, q2⟩).mono ?_); rw [HF.out]; rintro e vf ⟨rfl, h⟩; have hK := hK.trans h; obtain ⟨B0, B1, B2⟩ := hbx.out _ hK; obtain ⟨k0a, k0b, k0c, k0d⟩ := B0.four; obtain ⟨k1a, k1b, k1c, k1d⟩ := B1.four; obtain ⟨k2a, k2b, k2c, k2d⟩ := B2.four)
      | (go_at_call 31; (with_reducible refine ((Ref04.right_any a0 ad0 cap0 cp0 b0 sg0 p0 q0 _ (P0.out.since (hS0.trans hK)) (Q0.out.since (hS0.trans hK)) (by have := FW.out; omega) (by have := FW.out; omega))).mono ?_); rw [G0.out]; rintro e w1 ⟨rfl, h⟩; have hK := hK.trans h; obtain ⟨B0, B1, B2⟩ := hbx.out _ hK; obtain ⟨k0a, k0b, k0c, k0d⟩ := B0.four; obtain ⟨k1a, k1b, k1c, k1d⟩ := B1.four; obtain ⟨k2a, k2b, k2c, k2d⟩ := B2.four)
      | (go_at_call 31; (with_reducible refine ((Ref04.right_any a1 ad1 cap1 cp1 b1 sg1 p1 q1 _ (P1.out.since (hS0.trans hK)) (Q1.out.since (hS0.trans hK)) (by have := FW.out; omega) (by have := FW.out; omega))).mono ?_); rw [G1.out]; rintro e w2 ⟨rfl, h⟩; have hK := hK.trans h; obtain ⟨B0, B1, B2⟩ := hbx.out _ hK; obtain ⟨k0a, k0b, k0c, k0d⟩ := B0.four; obtain ⟨k1a, k1b, k1c, k1d⟩ := B1.four; obtain ⟨k2a, k2b, k2c, k2d⟩ := B2.four))
    go_ret
    exact ⟨rfl, hS0.trans hK⟩
  have G1 := Lib.hid g1
  by_cases g2 : rrB ((b2, p2), (sg2, q2)) = true
  rotate_left
  · have G2 := Lib.hid (show rrB ((b2, p2), (sg2, q2)) = false by simpa using g2)
    clear g0 g1 g2
    go_enter Tryz.func7, Tryz.ntmps7
    go_wp2_with fail
    rw [← HW.out]
    obtain ⟨B0, B1, B2⟩ := hbx.out _ hK; obtain ⟨k0a, k0b, k0c, k0d⟩ := B0.four; obtain ⟨k1a, k1b, k1c, k1d⟩ := B1.four; obtain ⟨k2a, k2b, k2c, k2d⟩ := B2.four
    go_wp2_with (first
      | (go_at_call 9; (with_reducible refine (Alive04.alive _).mono ?_); rintro e v0 ⟨rfl, h⟩; have hK := hK.trans h; obtain ⟨B0, B1, B2⟩ := hbx.out _ hK; obtain ⟨k0a, k0b, k0c, k0d⟩ := B0.four; obtain ⟨k1a, k1b, k1c, k1d⟩ := B1.four; obtain ⟨k2a, k2b, k2c, k2d⟩ := B2.four)
      | (go_at_call 10; (with_reducible refine (Law04.few_three _ _ ⟨b0, a0, cap0, p0, sg0, ad0, cp0, q0⟩ ⟨b1, a1, cap1, p1, sg1, ad1, cp1, q1⟩ ⟨b2, a2, cap2, p2, sg2, ad2, cp2, q2⟩).mono ?_); rw [HF.out]; rintro e vf ⟨rfl, h⟩; have hK := hK.trans h; obtain ⟨B0, B1, B2⟩ := hbx.out _ hK; obtain ⟨k0a, k0b, k0c, k0d⟩ := B0.four; obtain ⟨k1a, k1b, k1c, k1d⟩ := B1.four; obtain ⟨k2a, k2b, k2c, k2d⟩ := B2.four)
      | (go_at_call 31; (with_reducible refine ((Ref04.right_any a0 ad0 cap0 cp0 b0 sg0 p0 q0 _ (P0.out.since (hS0.trans hK)) (Q0.out.since (hS0.trans hK)) (by have := FW.out; omega) (by have := FW.out; omega))).mono ?_); rw [G0.out]; rintro e w1 ⟨rfl, h⟩; have hK := hK.trans h; obtain ⟨B0, B1, B2⟩ := hbx.out _ hK; obtain ⟨k0a, k0b, k0c, k0d⟩ := B0.four; obtain ⟨k1a, k1b, k1c, k1d⟩ := B1.four; obtain ⟨k2a, k2b, k2c, k2d⟩ := B2.four)
      | (go_at_call 31; (with_reducible refine ((Ref04.right_any a1 ad1 cap1 cp1 b1 sg1 p1 q1 _ (P1.out.since (hS0.trans hK)) (Q1.out.since (hS0.trans hK)) (by have := FW.out; omega) (by have := FW.out; omega))).mono ?_); rw [G1.out]; rintro e w2 ⟨rfl, h⟩; have hK := hK.trans h; obtain ⟨B0, B1, B2⟩ := hbx.out _ hK; obtain ⟨k0a, k0b, k0c, k0d⟩ := B0.four; obtain ⟨k1a, k1b, k1c, k1d⟩ := B1.four; obtain ⟨k2a, k2b, k2c, k2d⟩ := B2.four)
      | (go_at_call 31; (with_reducible refine ((Ref04.right_any a2 ad2 cap2 cp2 b2 sg2 p2 q2 _ (P2.out.since (hS0.trans hK)) (Q2.out.since (hS0.trans hK)) (by have := FW.out; omega) (by have := FW.out; omega))).mono ?_); rw [G2.out]; rintro e w3 ⟨rfl, h⟩; have hK := hK.trans h; obtain ⟨B0, B1, B2⟩ := hbx.out _ hK; obtain ⟨k0a, k0b, k0c, k0d⟩ := B0.four; obtain ⟨k1a, k1b, k1c, k1d⟩ := B1.four; obtain ⟨k2a, k2b, k2c, k2d⟩ := B2.four))
    go_ret
    exact ⟨rfl, hS0.trans hK⟩
  have G2 := Lib.hid g2
  clear g0 g1 g2
  obtain ⟨c, ⟨⟨n1, s1⟩, n2, s2⟩, ⟨⟨n3, s3⟩, n4, s4⟩, E1, E2, E3, E4, E5, H1, H2, H3, H4⟩ := order_fracs P0.out.dig Q0.out.dig P1.out.dig Q1.out.dig P2.out.dig Q2.out.dig G0.out G1.out G2.out (by have := FW.out; dsimp only; omega) (by have := FW.out; dsimp only; omega) (by have := FW.out; dsimp only; omega) (by have := FW.out; dsimp only; omega) (by have := FW.out; dsimp only; omega) (by have := FW.out; dsimp only; omega)
  have E1 := Lib.hid E1
  have E2 := Lib.hid E2
  have E3 := Lib.hid E3
  have E4 := Lib.hid E4
  have E5 := Lib.hid E5
  have H4 := Lib.hid H4
  have SM := Lib.hid (show sameF ((b0, p0), (sg0, q0)) ((b1, p1), (sg1, q1)) = decide (c = 0) by rw [sameF_eq]; exact decide_eq_decide.2 H1.symm)
  have LA := Lib.hid (show s1.length ≤ 64 ∧ s2.length ≤ 64 from fz_len (addR_len _ _) E3.out)
  have LB := Lib.hid (show s3.length ≤ 64 ∧ s4.length ≤ 64 from fz_len (addR_len _ _) E4.out)
  clear H1 H2 H3
  go_enter Tryz.func7, Tryz.ntmps7
  go_wp2_with fail
  rw [← HW.out]
  obtain ⟨B0, B1, B2⟩ := hbx.out _ hK; obtain ⟨k0a, k0b, k0c, k0d⟩ := B0.four; obtain ⟨k1a, k1b, k1c, k1d⟩ := B1.four; obtain ⟨k2a, k2b, k2c, k2d⟩ := B2.four
  go_upto_region 5 with (first
    | (go_at_call 9; (with_reducible refine (Alive04.alive _).mono ?_); rintro e v0 ⟨rfl, h⟩; have hK := hK.trans h; obtain ⟨B0, B1, B2⟩ := hbx.out _ hK; obtain ⟨k0a, k0b, k0c, k0d⟩ := B0.four; obtain ⟨k1a, k1b, k1c, k1d⟩ := B1.four; obtain ⟨k2a, k2b, k2c, k2d⟩ := B2.four)
    | (go_at_call 10; (with_reducible refine (Law04.few_three _ _ ⟨b0, a0, cap0, p0, sg0, ad0, cp0, q0⟩ ⟨b1, a1, cap1, p1, sg1, ad1, cp1, q1⟩ ⟨b2, a2, cap2, p2, sg2, ad2, cp2, q2⟩).mono ?_); rw [HF.out]; rintro e vf ⟨rfl, h⟩; have hK := hK.trans h; obtain ⟨B0, B1, B2⟩ := hbx.out _ hK; obtain ⟨k0a, k0b, k0c, k0d⟩ := B0.four; obtain ⟨k1a, k1b, k1c, k1d⟩ := B1.four; obtain ⟨k2a, k2b, k2c, k2d⟩ := B2.four)
    | (go_at_call 31; (with_reducible refine ((Ref04.right_any a0 ad0 cap0 cp0 b0 sg0 p0 q0 _ (P0.out.since (hS0.trans hK)) (Q0.out.since (hS0.trans hK)) (by have := FW.out; omega) (by have := FW.out; omega))).mono ?_); rw [G0.out]; rintro e w1 ⟨rfl, h⟩; have hK := hK.trans h; obtain ⟨B0, B1, B2⟩ := hbx.out _ hK; obtain ⟨k0a, k0b, k0c, k0d⟩ := B0.four; obtain ⟨k1a, k1b, k1c, k1d⟩ := B1.four; obtain ⟨k2a, k2b, k2c, k2d⟩ := B2.four)
    | (go_at_call 31; (with_reducible refine ((Ref04.right_any a1 ad1 cap1 cp1 b1 sg1 p1 q1 _ (P1.out.since (hS0.trans hK)) (Q1.out.since (hS0.trans hK)) (by have := FW.out; omega) (by have := FW.out; omega))).mono ?_); rw [G1.out]; rintro e w2 ⟨rfl, h⟩; have hK := hK.trans h; obtain ⟨B0, B1, B2⟩ := hbx.out _ hK; obtain ⟨k0a, k0b, k0c, k0d⟩ := B0.four; obtain ⟨k1a, k1b, k1c, k1d⟩ := B1.four; obtain ⟨k2a, k2b, k2c, k2d⟩ := B2.four)
    | (go_at_call 31; (with_reducible refine ((Ref04.right_any a2 ad2 cap2 cp2 b2 sg2 p2 q2 _ (P2.out.since (hS0.trans hK)) (Q2.out.since (hS0.trans hK)) (by have := FW.out; omega) (by have := FW.out; omega))).mono ?_); rw [G2.out]; rintro e w3 ⟨rfl, h⟩; have hK := hK.trans h; obtain ⟨B0, B1, B2⟩ := hbx.out _ hK; obtain ⟨k0a, k0b, k0c, k0d⟩ := B0.four; obtain ⟨k1a, k1b, k1c, k1d⟩ := B1.four; obtain ⟨k2a, k2b, k2c, k2d⟩ := B2.four))
  have hS := hK
  clear hK
  have hall : Hid (∀ W : World, Since w3 W → W.cell? ⟨w.heap.size, 0, none⟩ = some (.bool b0) ∧ W.cell? ⟨w.heap.size, 1, none⟩ = some (.slice a0 p0.length cap0) ∧ W.cell? ⟨w.heap.size, 2, none⟩ = some (.bool sg0) ∧ W.cell? ⟨w.heap.size, 3, none⟩ = some (.slice ad0 q0.length cp0) ∧ W.cell? ⟨w.heap.size + 1, 0, none⟩ = some (.bool b1) ∧ W.cell? ⟨w.heap.size + 1, 1, none⟩ = some (.slice a1 p1.length cap1) ∧ W.cell? ⟨w.heap.size + 1, 2, none⟩ = some (.bool sg1) ∧ W.cell? ⟨w.heap.size + 1, 3, none⟩ = some (.slice ad1 q1.length cp1) ∧ W.cell? ⟨w.heap.size + 1 + 1, 0, none⟩ = some (.bool b2) ∧ W.cell? ⟨w.heap.size + 1 + 1, 1, none⟩ = some (.slice a2 p2.length cap2) ∧ W.cell? ⟨w.heap.size + 1 + 1, 2, none⟩ = some (.bool sg2) ∧ W.cell? ⟨w.heap.size + 1 + 1, 3, none⟩ = some (.slice ad2 q2.length cp2)) := fun W h => by
    obtain ⟨B0, B1, B2⟩ := hbx.out _ (hS.trans h)
    obtain ⟨k0a, k0b, k0c, k0d⟩ := B0.four
    obtain ⟨k1a, k1b, k1c, k1d⟩ := B1.four
    obtain ⟨k2a, k2b, k2c, k2d⟩ := B2.four
    exact ⟨k0a, k0b, k0c, k0d, k1a, k1b, k1c, k1d, k2a, k2b, k2c, k2d⟩
  have hr0 : Since w3 w3.drew := Since.drew (Since.refl w3)
  refine wp_region_noPanic ?_
  refine Reg.wp_region_G (S := fun W => W.cell? ⟨w.heap.size, 0, none⟩ = some (.bool b0) ∧ W.cell? ⟨w.heap.size, 1, none⟩ = some (.slice a0 p0.length cap0) ∧ W.cell? ⟨w.heap.size, 2, none⟩ = some (.bool sg0) ∧ W.cell? ⟨w.heap.size, 3, none⟩ = some (.slice ad0 q0.length cp0) ∧ W.cell? ⟨w.heap.size + 1, 0, none⟩ = some (.bool b1) ∧ W.cell? ⟨w.heap.size + 1, 1, none⟩ = some (.slice a1 p1.length cap1) ∧ W.cell? ⟨w.heap.size + 1, 2, none⟩ = some (.bool sg1) ∧ W.cell? ⟨w.heap.size + 1, 3, none⟩ = some (.slice ad1 q1.length cp1) ∧ W.cell? ⟨w.heap.size + 1 + 1, 0, none⟩ = some (.bool b2) ∧ W.cell? ⟨w.heap.size + 1 + 1, 1, none⟩ = some (.slice a2 p2.length cap2) ∧ W.cell? ⟨w.heap.size + 1 + 1, 2, none⟩ = some (.bool sg2) ∧ W.cell? ⟨w.heap.size + 1 + 1, 3, none⟩ = some (.slice ad2 q2.length cp2)) (fun j => [].contains j) (by kernel_rfl) ?_ ?_
  · exact hall.out _ hr0
  refine' Reg.wpG_take (i := 0) (oi := { dst := some 41, op := Op.load 26 (Operand.tmp 3), type := 26, pos := "law.go:137", after := #[], guard := none }) (v := _) [1, 3, 4, 5, 6, 7, 8, 9] [] rfl rfl (by kernel_rfl) (by kernel_rfl) (by kernel_rfl) (by kernel_rfl) (by kernel_rfl) (by kernel_rfl) (by kernel_rfl) (fun _ _ _ h => h) (Or.inl ⟨by rfl, Or.inl ?hy2⟩) ?rest2
  case hy2 => (intro w' kk ss; (try dsimp only at ss); go_simp; first | done | with_reducible rfl)
  try simp only [Act.put, List.setIfInBounds_toArray, List.set_cons_zero, List.set_cons_succ]
  refine Reg.wpG_take (i := 1) (oi := { dst := some 42, op := Op.call { callee := Callee.value (Operand.func 12), args := #[Operand.tmp 41], argTypes := #[26] }, type := 31, pos := "law.go:137", after := #[{ on := 0, ground := Ground.data }], guard := none }) (v := .agg #[.bool b0, .slice a0 p0.length cap0, .bool sg0, .slice ad0 q0.length cp0]) [3, 4, 5, 6, 7, 8, 9] [] rfl rfl (by kernel_rfl) (by kernel_rfl) (by kernel_rfl) (by kernel_rfl) (by kernel_rfl) (by kernel_rfl) (by kernel_rfl) (fun _ _ _ h => h) (Or.inl ⟨by rfl, Or.inr ⟨12, #[.agg #[.bool b0, .slice a0 p0.length cap0, .bool sg0, .slice ad0 q0.length cp0]], fun w' kk ss => ⟨?_, ?_⟩⟩⟩) ?_
  · (try dsimp only at ss); go_simp
  · exact (Law04.theirs_any a0 ad0 p0.length cap0 q0.length cp0 b0 sg0 w').mono fun e w'' h => ⟨h.1, h.2, hall.out _ (hr0.trans (kk.trans h.2))⟩
  try simp only [Act.put, List.setIfInBounds_toArray, List.set_cons_zero, List.set_cons_succ]
  refine' Reg.wpG_take (i := 2) (oi := { dst := some 43, op := Op.load 26 (Operand.tmp 4), type := 26, pos := "law.go:137", after := #[], guard := none }) (v := _) [3, 4, 5, 6, 7, 8, 9] [] rfl rfl (by kernel_rfl) (by kernel_rfl) (by kernel_rfl) (by kernel_rfl) (by kernel_rfl) (by kernel_rfl) (by kernel_rfl) (fun _ _ _ h => h) (Or.inl ⟨by rfl, Or.inl ?hy3⟩) ?rest3
  case hy3 => (intro w' kk ss; (try dsimp only at ss); go_simp; first | done | with_reducible rfl)
  try simp only [Act.put, List.setIfInBounds_toArray, List.set_cons_zero, List.set_cons_succ]
  refine Reg.wpG_take (i := 3) (oi := { dst := some 44, op := Op.call { callee := Callee.value (Operand.func 12), args := #[Operand.tmp 43], argTypes := #[26] }, type := 31, pos := "law.go:137", after := #[{ on := 2, ground := Ground.data }, { on := 1, ground := Ground.chain }], guard := none }) (v := .agg #[.bool b1, .slice a1 p1.length cap1, .bool sg1, .slice ad1 q1.length cp1]) [4, 5, 6, 7, 8, 9] [] rfl rfl (by kernel_rfl) (by kernel_rfl) (by kernel_rfl) (by kernel_rfl) (by kernel_rfl) (by kernel_rfl) (by kernel_rfl) (fun _ _ _ h => h) (Or.inl ⟨by rfl, Or.inr ⟨12, #[.agg #[.bool b1, .slice a1 p1.length cap1, .bool sg1, .slice ad1 q1.length cp1]], fun w' kk ss => ⟨?_, ?_⟩⟩⟩) ?_
  · (try dsimp only at ss); go_simp
  · exact (Law04.theirs_any a1 ad1 p1.length cap1 q1.length cp1 b1 sg1 w').mono fun e w'' h => ⟨h.1, h.2, hall.out _ (hr0.trans (kk.trans h.2))⟩
  try simp only [Act.put, List.setIfInBounds_toArray, List.set_cons_zero, List.set_cons_succ]
  refine Reg.wpG_take (i := 4) (oi := { dst := some 45, op := Op.call { callee := Callee.value (Operand.func 16), args := #[Operand.tmp 42, Operand.tmp 44], argTypes := #[31, 31] }, type := 40, pos := "law.go:137", after := #[{ on := 1, ground := Ground.data }, { on := 3, ground := Ground.data }, { on := 3, ground := Ground.chain }], guard := none }) (v := .tuple #[.int .i64 c, .int .i64 0]) [5, 6, 7, 8, 9] [] rfl rfl (by kernel_rfl) (by kernel_rfl) (by kernel_rfl) (by kernel_rfl) (by kernel_rfl) (by kernel_rfl) (by kernel_rfl) (fun _ _ _ h => h) (Or.inl ⟨by rfl, Or.inr ⟨16, #[.agg #[.bool b0, .slice a0 p0.length cap0, .bool sg0, .slice ad0 q0.length cp0], .agg #[.bool b1, .slice a1 p1.length cap1, .bool sg1, .slice ad1 q1.length cp1]], fun w' kk ss => ⟨?_, ?_⟩⟩⟩) ?_
  · (try dsimp only at ss); go_simp
  · exact (cmp_val (ns := Sr04.cmp_any a0 ad0 a1 ad1 cap0 cp0 cap1 cp1 b0 sg0 b1 sg1 p0 q0 p1 q1 w' (P0.out.since (hS0.trans (hS.trans (hr0.trans kk)))) (Q0.out.since (hS0.trans (hS.trans (hr0.trans kk)))) (P1.out.since (hS0.trans (hS.trans (hr0.trans kk)))) (Q1.out.since (hS0.trans (hS.trans (hr0.trans kk)))) (by have := FW.out; omega) (by have := FW.out; omega) (by have := FW.out; omega) (by have := FW.out; omega)) E1.out).mono fun e w'' h => ⟨h.1, h.2, hall.out _ (hr0.trans (kk.trans h.2))⟩
  try simp only [Act.put, List.setIfInBounds_toArray, List.set_cons_zero, List.set_cons_succ]
  refine' Reg.wpG_take (i := 5) (oi := { dst := some 40, op := Op.move (Operand.tmp 45), type := 40, pos := "law.go:137", after := #[{ on := 4, ground := Ground.data }], guard := none }) (v := _) [6, 7, 8, 9] [] rfl rfl (by kernel_rfl) (by kernel_rfl) (by kernel_rfl) (by kernel_rfl) (by kernel_rfl) (by kernel_rfl) (by kernel_rfl) (fun _ _ _ h => h) (Or.inl ⟨by rfl, Or.inl ?hy4⟩) ?rest4
  case hy4 => (intro w' kk ss; (try dsimp only at ss); go_simp; first | done | with_reducible rfl)
  try simp only [Act.put, List.setIfInBounds_toArray, List.set_cons_zero, List.set_cons_succ]
  refine' Reg.wpG_take (i := 6) (oi := { dst := some 46, op := Op.extract (Operand.tmp 40) 0, type := 3, pos := "law.go:137", after := #[{ on := 5, ground := Ground.data }], guard := none }) (v := _) [8, 9] [] rfl rfl (by kernel_rfl) (by kernel_rfl) (by kernel_rfl) (by kernel_rfl) (by kernel_rfl) (by kernel_rfl) (by kernel_rfl) (fun _ _ _ h => h) (Or.inl ⟨by rfl, Or.inl ?hy5⟩) ?rest5
  case hy5 => (intro w' kk ss; (try dsimp only at ss); go_simp; first | done | with_reducible rfl)
  try simp only [Act.put, List.setIfInBounds_toArray, List.set_cons_zero, List.set_cons_succ]
  refine' Reg.wpG_take (i := 7) (oi := { dst := some 47, op := Op.extract (Operand.tmp 40) 1, type := 32, pos := "law.go:137", after := #[{ on := 5, ground := Ground.data }, { on := 8, ground := Ground.gcOnly Departure.lateStores }], guard := none }) (v := _) [9] [] rfl rfl (by kernel_rfl) (by kernel_rfl) (by kernel_rfl) (by kernel_rfl) (by kernel_rfl) (by kernel_rfl) (by kernel_rfl) (fun _ _ _ h => h) (Or.inl ⟨by rfl, Or.inl ?hy6⟩) ?rest6
  case hy6 => (intro w' kk ss; (try dsimp only at ss); go_simp; first | done | with_reducible rfl)
  try simp only [Act.put, List.setIfInBounds_toArray, List.set_cons_zero, List.set_cons_succ]
  refine' Reg.wpG_take (i := 8) (oi := { dst := some 7, op := Op.assign (Operand.tmp 46), type := 3, pos := "law.go:137", after := #[{ on := 6, ground := Ground.data }, { on := 4, ground := Ground.chain }, { on := 0, ground := Ground.phase }, { on := 1, ground := Ground.phase }, { on := 2, ground := Ground.phase }, { on := 3, ground := Ground.phase }, { on := 4, ground := Ground.phase }, { on := 5, ground := Ground.phase }, { on := 6, ground := Ground.phase }, { on := 7, ground := Ground.textOnly Departure.lateStores }], guard := none }) (v := _) [9] [] rfl rfl (by kernel_rfl) (by kernel_rfl) (by kernel_rfl) (by kernel_rfl) (by kernel_rfl) (by kernel_rfl) (by kernel_rfl) (fun _ _ _ h => h) (Or.inl ⟨by rfl, Or.inl ?hy7⟩) ?rest7
  case hy7 => (intro w' kk ss; (try dsimp only at ss); go_simp; first | done | with_reducible rfl)
  try simp only [Act.put, List.setIfInBounds_toArray, List.set_cons_zero, List.set_cons_succ]
  refine' Reg.wpG_take (i := 9) (oi := { dst := some 8, op := Op.assign (Operand.tmp 47), type := 32, pos := "law.go:137", after := #[{ on := 7, ground := Ground.data }, { on := 8, ground := Ground.chain }, { on := 0, ground := Ground.phase }, { on := 1, ground := Ground.phase }, { on := 2, ground := Ground.phase }, { on := 3, ground := Ground.phase }, { on := 4, ground := Ground.phase }, { on := 5, ground := Ground.phase }, { on := 6, ground := Ground.phase }, { on := 7, ground := Ground.phase }, { on := 8, ground := Ground.phase }], guard := none }) (v := _) [] [] rfl rfl (by kernel_rfl) (by kernel_rfl) (by kernel_rfl) (by kernel_rfl) (by kernel_rfl) (by kernel_rfl) (by kernel_rfl) (fun _ _ _ h => h) (Or.inl ⟨by rfl, Or.inl ?hy8⟩) ?rest8
  case hy8 => (intro w' kk ss; (try dsimp only at ss); go_simp; first | done | with_reducible rfl)
  try simp only [Act.put, List.setIfInBounds_toArray, List.set_cons_zero, List.set_cons_succ]
  refine Reg.wpG_done (by kernel_rfl) (fun we ke se => ?_) _
  refine NoPanic.normal ?_
  have hr0 := hr0.trans ke
  clear ke
  have hS := hS.trans hr0
  clear hr0 hall
  go_upto_region 6 with fail
  have hall : Hid (∀ W : World, Since we W → W.cell? ⟨w.heap.size, 0, none⟩ = some (.bool b0) ∧ W.cell? ⟨w.heap.size, 1, none⟩ = some (.slice a0 p0.length cap0) ∧ W.cell? ⟨w.heap.size, 2, none⟩ = some (.bool sg0) ∧ W.cell? ⟨w.heap.size, 3, none⟩ = some (.slice ad0 q0.length cp0) ∧ W.cell? ⟨w.heap.size + 1, 0, none⟩ = some (.bool b1) ∧ W.cell? ⟨w.heap.size + 1, 1, none⟩ = some (.slice a1 p1.length cap1) ∧ W.cell? ⟨w.heap.size + 1, 2, none⟩ = some (.bool sg1) ∧ W.cell? ⟨w.heap.size + 1, 3, none⟩ = some (.slice ad1 q1.length cp1) ∧ W.cell? ⟨w.heap.size + 1 + 1, 0, none⟩ = some (.bool b2) ∧ W.cell? ⟨w.heap.size + 1 + 1, 1, none⟩ = some (.slice a2 p2.length cap2) ∧ W.cell? ⟨w.heap.size + 1 + 1, 2, none⟩ = some (.bool sg2) ∧ W.cell? ⟨w.heap.size + 1 + 1, 3, none⟩ = some (.slice ad2 q2.length cp2)) := fun W h => by
    obtain ⟨B0, B1, B2⟩ := hbx.out _ (hS.trans h)
    obtain ⟨k0a, k0b, k0c, k0d⟩ := B0.four
    obtain ⟨k1a, k1b, k1c, k1d⟩ := B1.four
    obtain ⟨k2a, k2b, k2c, k2d⟩ := B2.four
    exact ⟨k0a, k0b, k0c, k0d, k1a, k1b, k1c, k1d, k2a, k2b, k2c, k2d⟩
  have hr0 : Since we we.drew := Since.drew (Since.refl we)
  refine wp_region_noPanic ?_
  refine Reg.wp_region_G (S := fun W => W.cell? ⟨w.heap.size, 0, none⟩ = some (.bool b0) ∧ W.cell? ⟨w.heap.size, 1, none⟩ = some (.slice a0 p0.length cap0) ∧ W.cell? ⟨w.heap.size, 2, none⟩ = some (.bool sg0) ∧ W.cell? ⟨w.heap.size, 3, none⟩ = some (.slice ad0 q0.length cp0) ∧ W.cell? ⟨w.heap.size + 1, 0, none⟩ = some (.bool b1) ∧ W.cell? ⟨w.heap.size + 1, 1, none⟩ = some (.slice a1 p1.length cap1) ∧ W.cell? ⟨w.heap.size + 1, 2, none⟩ = some (.bool sg1) ∧ W.cell? ⟨w.heap.size + 1, 3, none⟩ = some (.slice ad1 q1.length cp1) ∧ W.cell? ⟨w.heap.size + 1 + 1, 0, none⟩ = some (.bool b2) ∧ W.cell? ⟨w.heap.size + 1 + 1, 1, none⟩ = some (.slice a2 p2.length cap2) ∧ W.cell? ⟨w.heap.size + 1 + 1, 2, none⟩ = some (.bool sg2) ∧ W.cell? ⟨w.heap.size + 1 + 1, 3, none⟩ = some (.slice ad2 q2.length cp2)) (fun j => [].contains j) (by kernel_rfl) ?_ ?_
  · exact hall.out _ hr0
  refine' Reg.wpG_take (i := 0) (oi := { dst := some 49, op := Op.load 26 (Operand.tmp 4), type := 26, pos := "law.go:138", after := #[], guard := none }) (v := _) [1, 3, 4, 5, 6, 7, 8, 9] [] rfl rfl (by kernel_rfl) (by kernel_rfl) (by kernel_rfl) (by kernel_rfl) (by kernel_rfl) (by kernel_rfl) (by kernel_rfl) (fun _ _ _ h => h) (Or.inl ⟨by rfl, Or.inl ?hy10⟩) ?rest10
  case hy10 => (intro w' kk ss; (try dsimp only at ss); go_simp; first | done | with_reducible rfl)
  try simp only [Act.put, List.setIfInBounds_toArray, List.set_cons_zero, List.set_cons_succ]
  refine Reg.wpG_take (i := 1) (oi := { dst := some 50, op := Op.call { callee := Callee.value (Operand.func 12), args := #[Operand.tmp 49], argTypes := #[26] }, type := 31, pos := "law.go:138", after := #[{ on := 0, ground := Ground.data }], guard := none }) (v := .agg #[.bool b1, .slice a1 p1.length cap1, .bool sg1, .slice ad1 q1.length cp1]) [3, 4, 5, 6, 7, 8, 9] [] rfl rfl (by kernel_rfl) (by kernel_rfl) (by kernel_rfl) (by kernel_rfl) (by kernel_rfl) (by kernel_rfl) (by kernel_rfl) (fun _ _ _ h => h) (Or.inl ⟨by rfl, Or.inr ⟨12, #[.agg #[.bool b1, .slice a1 p1.length cap1, .bool sg1, .slice ad1 q1.length cp1]], fun w' kk ss => ⟨?_, ?_⟩⟩⟩) ?_
  · (try dsimp only at ss); go_simp
  · exact (Law04.theirs_any a1 ad1 p1.length cap1 q1.length cp1 b1 sg1 w').mono fun e w'' h => ⟨h.1, h.2, hall.out _ (hr0.trans (kk.trans h.2))⟩
  try simp only [Act.put, List.setIfInBounds_toArray, List.set_cons_zero, List.set_cons_succ]
  refine' Reg.wpG_take (i := 2) (oi := { dst := some 51, op := Op.load 26 (Operand.tmp 3), type := 26, pos := "law.go:138", after := #[], guard := none }) (v := _) [3, 4, 5, 6, 7, 8, 9] [] rfl rfl (by kernel_rfl) (by kernel_rfl) (by kernel_rfl) (by kernel_rfl) (by kernel_rfl) (by kernel_rfl) (by kernel_rfl) (fun _ _ _ h => h) (Or.inl ⟨by rfl, Or.inl ?hy11⟩) ?rest11
  case hy11 => (intro w' kk ss; (try dsimp only at ss); go_simp; first | done | with_reducible rfl)
  try simp only [Act.put, List.setIfInBounds_toArray, List.set_cons_zero, List.set_cons_succ]
  refine Reg.wpG_take (i := 3) (oi := { dst := some 52, op := Op.call { callee := Callee.value (Operand.func 12), args := #[Operand.tmp 51], argTypes := #[26] }, type := 31, pos := "law.go:138", after := #[{ on := 2, ground := Ground.data }, { on := 1, ground := Ground.chain }], guard := none }) (v := .agg #[.bool b0, .slice a0 p0.length cap0, .bool sg0, .slice ad0 q0.length cp0]) [4, 5, 6, 7, 8, 9] [] rfl rfl (by kernel_rfl) (by kernel_rfl) (by kernel_rfl) (by kernel_rfl) (by kernel_rfl) (by kernel_rfl) (by kernel_rfl) (fun _ _ _ h => h) (Or.inl ⟨by rfl, Or.inr ⟨12, #[.agg #[.bool b0, .slice a0 p0.length cap0, .bool sg0, .slice ad0 q0.length cp0]], fun w' kk ss => ⟨?_, ?_⟩⟩⟩) ?_
  · (try dsimp only at ss); go_simp
  · exact (Law04.theirs_any a0 ad0 p0.length cap0 q0.length cp0 b0 sg0 w').mono fun e w'' h => ⟨h.1, h.2, hall.out _ (hr0.trans (kk.trans h.2))⟩
  try simp only [Act.put, List.setIfInBounds_toArray, List.set_cons_zero, List.set_cons_succ]
  refine Reg.wpG_take (i := 4) (oi := { dst := some 53, op := Op.call { callee := Callee.value (Operand.func 16), args := #[Operand.tmp 50, Operand.tmp 52], argTypes := #[31, 31] }, type := 40, pos := "law.go:138", after := #[{ on := 1, ground := Ground.data }, { on := 3, ground := Ground.data }, { on := 3, ground := Ground.chain }], guard := none }) (v := .tuple #[.int .i64 (-c), .int .i64 0]) [5, 6, 7, 8, 9] [] rfl rfl (by kernel_rfl) (by kernel_rfl) (by kernel_rfl) (by kernel_rfl) (by kernel_rfl) (by kernel_rfl) (by kernel_rfl) (fun _ _ _ h => h) (Or.inl ⟨by rfl, Or.inr ⟨16, #[.agg #[.bool b1, .slice a1 p1.length cap1, .bool sg1, .slice ad1 q1.length cp1], .agg #[.bool b0, .slice a0 p0.length cap0, .bool sg0, .slice ad0 q0.length cp0]], fun w' kk ss => ⟨?_, ?_⟩⟩⟩) ?_
  · (try dsimp only at ss); go_simp
  · exact (cmp_val (ns := Sr04.cmp_any a1 ad1 a0 ad0 cap1 cp1 cap0 cp0 b1 sg1 b0 sg0 p1 q1 p0 q0 w' (P1.out.since (hS0.trans (hS.trans (hr0.trans kk)))) (Q1.out.since (hS0.trans (hS.trans (hr0.trans kk)))) (P0.out.since (hS0.trans (hS.trans (hr0.trans kk)))) (Q0.out.since (hS0.trans (hS.trans (hr0.trans kk)))) (by have := FW.out; omega) (by have := FW.out; omega) (by have := FW.out; omega) (by have := FW.out; omega)) E2.out).mono fun e w'' h => ⟨h.1, h.2, hall.out _ (hr0.trans (kk.trans h.2))⟩
  try simp only [Act.put, List.setIfInBounds_toArray, List.set_cons_zero, List.set_cons_succ]
  refine' Reg.wpG_take (i := 5) (oi := { dst := some 48, op := Op.move (Operand.tmp 53), type := 40, pos := "law.go:138", after := #[{ on := 4, ground := Ground.data }], guard := none }) (v := _) [6, 7, 8, 9] [] rfl rfl (by kernel_rfl) (by kernel_rfl) (by kernel_rfl) (by kernel_rfl) (by kernel_rfl) (by kernel_rfl) (by kernel_rfl) (fun _ _ _ h => h) (Or.inl ⟨by rfl, Or.inl ?hy12⟩) ?rest12
  case hy12 => (intro w' kk ss; (try dsimp only at ss); go_simp; first | done | with_reducible rfl)
  try simp only [Act.put, List.setIfInBounds_toArray, List.set_cons_zero, List.set_cons_succ]
  refine' Reg.wpG_take (i := 6) (oi := { dst := some 54, op := Op.extract (Operand.tmp 48) 0, type := 3, pos := "law.go:138", after := #[{ on := 5, ground := Ground.data }], guard := none }) (v := _) [8, 9] [] rfl rfl (by kernel_rfl) (by kernel_rfl) (by kernel_rfl) (by kernel_rfl) (by kernel_rfl) (by kernel_rfl) (by kernel_rfl) (fun _ _ _ h => h) (Or.inl ⟨by rfl, Or.inl ?hy13⟩) ?rest13
  case hy13 => (intro w' kk ss; (try dsimp only at ss); go_simp; first | done | with_reducible rfl)
  try simp only [Act.put, List.setIfInBounds_toArray, List.set_cons_zero, List.set_cons_succ]
  refine' Reg.wpG_take (i := 7) (oi := { dst := some 55, op := Op.extract (Operand.tmp 48) 1, type := 32, pos := "law.go:138", after := #[{ on := 5, ground := Ground.data }, { on := 8, ground := Ground.gcOnly Departure.lateStores }], guard := none }) (v := _) [9] [] rfl rfl (by kernel_rfl) (by kernel_rfl) (by kernel_rfl) (by kernel_rfl) (by kernel_rfl) (by kernel_rfl) (by kernel_rfl) (fun _ _ _ h => h) (Or.inl ⟨by rfl, Or.inl ?hy14⟩) ?rest14
  case hy14 => (intro w' kk ss; (try dsimp only at ss); go_simp; first | done | with_reducible rfl)
  try simp only [Act.put, List.setIfInBounds_toArray, List.set_cons_zero, List.set_cons_succ]
  refine' Reg.wpG_take (i := 8) (oi := { dst := some 9, op := Op.assign (Operand.tmp 54), type := 3, pos := "law.go:138", after := #[{ on := 6, ground := Ground.data }, { on := 4, ground := Ground.chain }, { on := 0, ground := Ground.phase }, { on := 1, ground := Ground.phase }, { on := 2, ground := Ground.phase }, { on := 3, ground := Ground.phase }, { on := 4, ground := Ground.phase }, { on := 5, ground := Ground.phase }, { on := 6, ground := Ground.phase }, { on := 7, ground := Ground.textOnly Departure.lateStores }], guard := none }) (v := _) [9] [] rfl rfl (by kernel_rfl) (by kernel_rfl) (by kernel_rfl) (by kernel_rfl) (by kernel_rfl) (by kernel_rfl) (by kernel_rfl) (fun _ _ _ h => h) (Or.inl ⟨by rfl, Or.inl ?hy15⟩) ?rest15
  case hy15 => (intro w' kk ss; (try dsimp only at ss); go_simp; first | done | with_reducible rfl)
  try simp only [Act.put, List.setIfInBounds_toArray, List.set_cons_zero, List.set_cons_succ]
  refine' Reg.wpG_take (i := 9) (oi := { dst := some 10, op := Op.assign (Operand.tmp 55), type := 32, pos := "law.go:138", after := #[{ on := 7, ground := Ground.data }, { on := 8, ground := Ground.chain }, { on := 0, ground := Ground.phase }, { on := 1, ground := Ground.phase }, { on := 2, ground := Ground.phase }, { on := 3, ground := Ground.phase }, { on := 4, ground := Ground.phase }, { on := 5, ground := Ground.phase }, { on := 6, ground := Ground.phase }, { on := 7, ground := Ground.phase }, { on := 8, ground := Ground.phase }], guard := none }) (v := _) [] [] rfl rfl (by kernel_rfl) (by kernel_rfl) (by kernel_rfl) (by kernel_rfl) (by kernel_rfl) (by kernel_rfl) (by kernel_rfl) (fun _ _ _ h => h) (Or.inl ⟨by rfl, Or.inl ?hy16⟩) ?rest16
  case hy16 => (intro w' kk ss; (try dsimp only at ss); go_simp; first | done | with_reducible rfl)
  try simp only [Act.put, List.setIfInBounds_toArray, List.set_cons_zero, List.set_cons_succ]
  refine Reg.wpG_done (by kernel_rfl) (fun wf ke se => ?_) _
  refine NoPanic.normal ?_
  have hr0 := hr0.trans ke
  clear ke
  have hZ := hS.trans hr0
  clear hr0 hall hS
  go_upto_region 7 with fail
  have hall : Hid (∀ W : World, Since wf W → W.cell? ⟨w.heap.size, 0, none⟩ = some (.bool b0) ∧ W.cell? ⟨w.heap.size, 1, none⟩ = some (.slice a0 p0.length cap0) ∧ W.cell? ⟨w.heap.size, 2, none⟩ = some (.bool sg0) ∧ W.cell? ⟨w.heap.size, 3, none⟩ = some (.slice ad0 q0.length cp0) ∧ W.cell? ⟨w.heap.size + 1, 0, none⟩ = some (.bool b1) ∧ W.cell? ⟨w.heap.size + 1, 1, none⟩ = some (.slice a1 p1.length cap1) ∧ W.cell? ⟨w.heap.size + 1, 2, none⟩ = some (.bool sg1) ∧ W.cell? ⟨w.heap.size + 1, 3, none⟩ = some (.slice ad1 q1.length cp1) ∧ W.cell? ⟨w.heap.size + 1 + 1, 0, none⟩ = some (.bool b2) ∧ W.cell? ⟨w.heap.size + 1 + 1, 1, none⟩ = some (.slice a2 p2.length cap2) ∧ W.cell? ⟨w.heap.size + 1 + 1, 2, none⟩ = some (.bool sg2) ∧ W.cell? ⟨w.heap.size + 1 + 1, 3, none⟩ = some (.slice ad2 q2.length cp2)) := fun W h => by
    obtain ⟨B0, B1, B2⟩ := hbx.out _ (hZ.trans h)
    obtain ⟨k0a, k0b, k0c, k0d⟩ := B0.four
    obtain ⟨k1a, k1b, k1c, k1d⟩ := B1.four
    obtain ⟨k2a, k2b, k2c, k2d⟩ := B2.four
    exact ⟨k0a, k0b, k0c, k0d, k1a, k1b, k1c, k1d, k2a, k2b, k2c, k2d⟩
  go_cut [11, 12] (fun pP pE W => ∃ (c0 : Nat) (X1 : Option Addr) (x1 : Nat) (Y1 : Option Addr) (y1 : Nat), pP = .pointer (some ⟨c0, 0, none⟩) ∧ pE = .int .i64 0 ∧ Since wf W ∧ Bx W c0 #[.bool n1, .slice X1 s1.length x1, .bool n2, .slice Y1 s2.length y1] 31 ∧ Row W (.slice X1 s1.length x1) s1 ∧ Row W (.slice Y1 s2.length y1) s2)
  case first =>
    have hr0 : Since wf wf.drew := Since.drew (Since.refl wf)
    refine wp_region_noPanic ?_
    refine Reg.wp_region_G (S := fun W => W.cell? ⟨w.heap.size, 0, none⟩ = some (.bool b0) ∧ W.cell? ⟨w.heap.size, 1, none⟩ = some (.slice a0 p0.length cap0) ∧ W.cell? ⟨w.heap.size, 2, none⟩ = some (.bool sg0) ∧ W.cell? ⟨w.heap.size, 3, none⟩ = some (.slice ad0 q0.length cp0) ∧ W.cell? ⟨w.heap.size + 1, 0, none⟩ = some (.bool b1) ∧ W.cell? ⟨w.heap.size + 1, 1, none⟩ = some (.slice a1 p1.length cap1) ∧ W.cell? ⟨w.heap.size + 1, 2, none⟩ = some (.bool sg1) ∧ W.cell? ⟨w.heap.size + 1, 3, none⟩ = some (.slice ad1 q1.length cp1) ∧ W.cell? ⟨w.heap.size + 1 + 1, 0, none⟩ = some (.bool b2) ∧ W.cell? ⟨w.heap.size + 1 + 1, 1, none⟩ = some (.slice a2 p2.length cap2) ∧ W.cell? ⟨w.heap.size + 1 + 1, 2, none⟩ = some (.bool sg2) ∧ W.cell? ⟨w.heap.size + 1 + 1, 3, none⟩ = some (.slice ad2 q2.length cp2)) (fun j => [4, 5, 6, 7, 9, 10].contains j) (by kernel_rfl) ?_ ?_
    · exact hall.out _ hr0
    refine' Reg.wpG_take (i := 0) (oi := { dst := some 57, op := Op.load 26 (Operand.tmp 3), type := 26, pos := "law.go:139", after := #[], guard := none }) (v := _) [1, 3, 4, 5, 6, 7, 9, 10] [4, 5, 6, 7, 9, 10] rfl rfl (by kernel_rfl) (by kernel_rfl) (by kernel_rfl) (by kernel_rfl) (by kernel_rfl) (by kernel_rfl) (by kernel_rfl) (fun _ _ _ h => h) (Or.inl ⟨by rfl, Or.inl ?hy17⟩) ?rest17
    case hy17 => (intro w' kk ss; (try dsimp only at ss); go_simp; first | done | with_reducible rfl)
    try simp only [Act.put, List.setIfInBounds_toArray, List.set_cons_zero, List.set_cons_succ]
    refine Reg.wpG_take (i := 1) (oi := { dst := some 58, op := Op.call { callee := Callee.value (Operand.func 12), args := #[Operand.tmp 57], argTypes := #[26] }, type := 31, pos := "law.go:139", after := #[{ on := 0, ground := Ground.data }], guard := none }) (v := .agg #[.bool b0, .slice a0 p0.length cap0, .bool sg0, .slice ad0 q0.length cp0]) [3, 4, 5, 6, 7, 9, 10] [4, 5, 6, 7, 9, 10] rfl rfl (by kernel_rfl) (by kernel_rfl) (by kernel_rfl) (by kernel_rfl) (by kernel_rfl) (by kernel_rfl) (by kernel_rfl) (fun _ _ _ h => h) (Or.inl ⟨by rfl, Or.inr ⟨12, #[.agg #[.bool b0, .slice a0 p0.length cap0, .bool sg0, .slice ad0 q0.length cp0]], fun w' kk ss => ⟨?_, ?_⟩⟩⟩) ?_
    · (try dsimp only at ss); go_simp
    · exact (Law04.theirs_any a0 ad0 p0.length cap0 q0.length cp0 b0 sg0 w').mono fun e w'' h => ⟨h.1, h.2, hall.out _ (hr0.trans (kk.trans h.2))⟩
    try simp only [Act.put, List.setIfInBounds_toArray, List.set_cons_zero, List.set_cons_succ]
    refine' Reg.wpG_take (i := 2) (oi := { dst := some 59, op := Op.load 26 (Operand.tmp 5), type := 26, pos := "law.go:139", after := #[], guard := none }) (v := _) [3, 4, 5, 6, 7, 9, 10] [4, 5, 6, 7, 9, 10] rfl rfl (by kernel_rfl) (by kernel_rfl) (by kernel_rfl) (by kernel_rfl) (by kernel_rfl) (by kernel_rfl) (by kernel_rfl) (fun _ _ _ h => h) (Or.inl ⟨by rfl, Or.inl ?hy18⟩) ?rest18
    case hy18 => (intro w' kk ss; (try dsimp only at ss); go_simp; first | done | with_reducible rfl)
    try simp only [Act.put, List.setIfInBounds_toArray, List.set_cons_zero, List.set_cons_succ]
    refine Reg.wpG_take (i := 3) (oi := { dst := some 60, op := Op.call { callee := Callee.value (Operand.func 12), args := #[Operand.tmp 59], argTypes := #[26] }, type := 31, pos := "law.go:139", after := #[{ on := 2, ground := Ground.data }, { on := 1, ground := Ground.chain }], guard := none }) (v := .agg #[.bool b2, .slice a2 p2.length cap2, .bool sg2, .slice ad2 q2.length cp2]) [4, 5, 6, 7, 9, 10] [4, 5, 6, 7, 9, 10] rfl rfl (by kernel_rfl) (by kernel_rfl) (by kernel_rfl) (by kernel_rfl) (by kernel_rfl) (by kernel_rfl) (by kernel_rfl) (fun _ _ _ h => h) (Or.inl ⟨by rfl, Or.inr ⟨12, #[.agg #[.bool b2, .slice a2 p2.length cap2, .bool sg2, .slice ad2 q2.length cp2]], fun w' kk ss => ⟨?_, ?_⟩⟩⟩) ?_
    · (try dsimp only at ss); go_simp
    · exact (Law04.theirs_any a2 ad2 p2.length cap2 q2.length cp2 b2 sg2 w').mono fun e w'' h => ⟨h.1, h.2, hall.out _ (hr0.trans (kk.trans h.2))⟩
    try simp only [Act.put, List.setIfInBounds_toArray, List.set_cons_zero, List.set_cons_succ]
    refine Reg.wpG_ready (rs := [4, 8]) (by kernel_rfl) (by simp) (fun wq1 k1' sq1 => ?_)
    have hr0 := hr0.trans k1'
    have hb : wf.heap.size ≤ wq1.heap.size := hr0.size
    refine Reg.AllG.last (o := { dst := some 61, op := Op.call { callee := Callee.value (Operand.func 11), args := #[Operand.tmp 58, Operand.tmp 60], argTypes := #[31, 31] }, type := 33, pos := "law.go:139", after := #[{ on := 1, ground := Ground.data }, { on := 3, ground := Ground.data }, { on := 3, ground := Ground.chain }], guard := none }) rfl (by rfl) (fun K hK => ?_) (Reg.AllG.first (o := { dst := some 11, op := Op.alloc 31, type := 0, pos := "law.go:139", after := #[], guard := none }) rfl (by rfl) (fun K hK => ?_) Reg.AllG.nil)
    · go_simp
      (with_reducible refine ((Sr04.add_any a0 ad0 a2 ad2 cap0 cp0 cap2 cp2 b0 sg0 b2 sg2 p0 q0 p2 q2 wq1 (P0.out.since (hS0.trans (hZ.trans hr0))) (Q0.out.since (hS0.trans (hZ.trans hr0))) (P2.out.since (hS0.trans (hZ.trans hr0))) (Q2.out.since (hS0.trans (hZ.trans hr0))) (by have := FW.out; omega) (by have := FW.out; omega) (by have := FW.out; omega) (by have := FW.out; omega)).mono fun _ _ h => RetF.at E3.out h).mono ?_)
      rintro e y ⟨X1, x1, Y1, y1, rfl, r1, r2, hx⟩
      have hr0 := hr0.trans hx
      have hb : wf.heap.size ≤ y.heap.size := hr0.size
      refine hK.out _ _ ?_ (fun hHeld => ?_)
      · exact hall.out _ hr0
      clear hK K
      try simp only [Act.put, List.setIfInBounds_toArray, List.set_cons_zero, List.set_cons_succ]
      refine' wpAnyH_take (i := 5) (oi := { dst := some 56, op := Op.move (Operand.tmp 61), type := 33, pos := "law.go:139", after := #[{ on := 4, ground := Ground.data }], guard := none }) (v := _) rfl (by kernel_rfl) (by kernel_rfl) (by kernel_rfl) (fun _ _ _ h => h) (Or.inl ⟨by rfl, ?hy19⟩) (by assumption) ?rest19
      case hy19 => (intro w' ss; (try dsimp only at ss); go_simp; first | done | with_reducible rfl)
      try simp only [Act.put, List.setIfInBounds_toArray, List.set_cons_zero, List.set_cons_succ]
      refine' wpAnyH_take (i := 6) (oi := { dst := some 62, op := Op.extract (Operand.tmp 56) 0, type := 31, pos := "law.go:139", after := #[{ on := 5, ground := Ground.data }], guard := none }) (v := _) rfl (by kernel_rfl) (by kernel_rfl) (by kernel_rfl) (fun _ _ _ h => h) (Or.inl ⟨by rfl, ?hy20⟩) (by assumption) ?rest20
      case hy20 => (intro w' ss; (try dsimp only at ss); go_simp; first | done | with_reducible rfl)
      try simp only [Act.put, List.setIfInBounds_toArray, List.set_cons_zero, List.set_cons_succ]
      refine' wpAnyH_take (i := 7) (oi := { dst := some 63, op := Op.extract (Operand.tmp 56) 1, type := 32, pos := "law.go:139", after := #[{ on := 5, ground := Ground.data }, { on := 9, ground := Ground.gcOnly Departure.lateStores }], guard := none }) (v := _) rfl (by kernel_rfl) (by kernel_rfl) (by kernel_rfl) (fun _ _ _ h => h) (Or.inl ⟨by rfl, ?hy21⟩) (by assumption) ?rest21
      case hy21 => (intro w' ss; (try dsimp only at ss); go_simp; first | done | with_reducible rfl)
      try simp only [Act.put, List.setIfInBounds_toArray, List.set_cons_zero, List.set_cons_succ]
      refine wpAnyH_ready (rs := [8]) (by kernel_rfl) (by simp) ?_
      refine AllReadyH.cons (o := { dst := some 11, op := Op.alloc 31, type := 0, pos := "law.go:139", after := #[], guard := none }) rfl (fun K hK => ?_) AllReadyH.nil
      · go_simp
        refine hK.out _ _ ?_ (fun hHeld => ?_)
        · exact hall.out _ (hr0.trans (since_alloc _ _))
        clear hK K
        try simp only [Act.put, List.setIfInBounds_toArray, List.set_cons_zero, List.set_cons_succ]
        have gb := Bx.fresh y #[.bool false, .slice none 0 0, .bool false, .slice none 0 0] 31
        refine wpAnyH_ready (rs := [9]) (by kernel_rfl) (by simp) ?_
        refine AllReadyH.cons (o := { dst := none, op := Op.store 31 (Operand.tmp 11) (Operand.tmp 62), type := 0, pos := "law.go:139", after := #[{ on := 8, ground := Ground.data }, { on := 6, ground := Ground.data }, { on := 4, ground := Ground.chain }, { on := 0, ground := Ground.phase }, { on := 1, ground := Ground.phase }, { on := 2, ground := Ground.phase }, { on := 3, ground := Ground.phase }, { on := 4, ground := Ground.phase }, { on := 5, ground := Ground.phase }, { on := 6, ground := Ground.phase }, { on := 7, ground := Ground.textOnly Departure.lateStores }, { on := 8, ground := Ground.phase }], guard := none }) rfl (fun K hK => ?_) AllReadyH.nil
        · obtain ⟨gza, gzb, gzc, gzd⟩ := gb.four
          obtain ⟨fza, fzb, fzc, fzd⟩ := gb.four'
          go_simp
          refine hK.out _ _ ?_ (fun hHeld => ?_)
          · exact hall.out _ (hr0.trans (since_alloc _ _))
          clear hK K
          try simp only [Act.put, List.setIfInBounds_toArray, List.set_cons_zero, List.set_cons_succ]
          refine' wpAnyH_take (i := 10) (oi := { dst := some 12, op := Op.assign (Operand.tmp 63), type := 32, pos := "law.go:139", after := #[{ on := 7, ground := Ground.data }, { on := 9, ground := Ground.chain }, { on := 0, ground := Ground.phase }, { on := 1, ground := Ground.phase }, { on := 2, ground := Ground.phase }, { on := 3, ground := Ground.phase }, { on := 4, ground := Ground.phase }, { on := 5, ground := Ground.phase }, { on := 6, ground := Ground.phase }, { on := 7, ground := Ground.phase }, { on := 8, ground := Ground.phase }, { on := 9, ground := Ground.phase }], guard := none }) (v := _) rfl (by kernel_rfl) (by kernel_rfl) (by kernel_rfl) (fun _ _ _ h => h) (Or.inl ⟨by rfl, ?hy22⟩) (by assumption) ?rest22
          case hy22 => (intro w' ss; (try dsimp only at ss); go_simp; first | done | with_reducible rfl)
          try simp only [Act.put, List.setIfInBounds_toArray, List.set_cons_zero, List.set_cons_succ]
          refine wpAnyH_done (by kernel_rfl) ?_ _
          refine NoPanic.normal ?_
          go_wp2_with fail
          go_meet
          exact ⟨_, X1, x1, Y1, y1, rfl, rfl, hr0.trans (since_alloc _ _), Bx.fresh _ _ _, r1.since (since_alloc _ _), r2.since (since_alloc _ _)⟩
    · go_simp
      refine hK.out _ _ ?_ (since_alloc _ _) ?_
      · exact hall.out _ (hr0.trans (since_alloc _ _))
      clear hK K
      try simp only [Act.put, List.setIfInBounds_toArray, List.set_cons_zero, List.set_cons_succ]
      have gb := Bx.fresh wq1 #[.bool false, .slice none 0 0, .bool false, .slice none 0 0] 31
      have hr0 := hr0.trans (since_alloc wq1 (.cells #[.bool false, .slice none 0 0, .bool false, .slice none 0 0] 31))
      refine Reg.wpG_ready (rs := [4]) (by kernel_rfl) (by simp) (fun wq2 k2' sq2 => ?_)
      have hr0 := hr0.trans k2'
      have gb := gb.since k2'
      refine Reg.AllG.last (o := { dst := some 61, op := Op.call { callee := Callee.value (Operand.func 11), args := #[Operand.tmp 58, Operand.tmp 60], argTypes := #[31, 31] }, type := 33, pos := "law.go:139", after := #[{ on := 1, ground := Ground.data }, { on := 3, ground := Ground.data }, { on := 3, ground := Ground.chain }], guard := none }) rfl (by rfl) (fun K hK => ?_) Reg.AllG.nil
      go_simp
      (with_reducible refine ((Sr04.add_any a0 ad0 a2 ad2 cap0 cp0 cap2 cp2 b0 sg0 b2 sg2 p0 q0 p2 q2 wq2 (P0.out.since (hS0.trans (hZ.trans hr0))) (Q0.out.since (hS0.trans (hZ.trans hr0))) (P2.out.since (hS0.trans (hZ.trans hr0))) (Q2.out.since (hS0.trans (hZ.trans hr0))) (by have := FW.out; omega) (by have := FW.out; omega) (by have := FW.out; omega) (by have := FW.out; omega)).mono fun _ _ h => RetF.at E3.out h).mono ?_)
      rintro e y ⟨X1, x1, Y1, y1, rfl, r1, r2, hx⟩
      have hr0 := hr0.trans hx
      have gb := gb.since hx
      generalize wq1.heap.size = bq at *
      refine hK.out _ _ ?_ (fun hHeld => ?_)
      · exact hall.out _ hr0
      clear hK K
      try simp only [Act.put, List.setIfInBounds_toArray, List.set_cons_zero, List.set_cons_succ]
      refine' wpAnyH_take (i := 5) (oi := { dst := some 56, op := Op.move (Operand.tmp 61), type := 33, pos := "law.go:139", after := #[{ on := 4, ground := Ground.data }], guard := none }) (v := _) rfl (by kernel_rfl) (by kernel_rfl) (by kernel_rfl) (fun _ _ _ h => h) (Or.inl ⟨by rfl, ?hy23⟩) (by assumption) ?rest23
      case hy23 => (intro w' ss; (try dsimp only at ss); go_simp; first | done | with_reducible rfl)
      try simp only [Act.put, List.setIfInBounds_toArray, List.set_cons_zero, List.set_cons_succ]
      refine' wpAnyH_take (i := 6) (oi := { dst := some 62, op := Op.extract (Operand.tmp 56) 0, type := 31, pos := "law.go:139", after := #[{ on := 5, ground := Ground.data }], guard := none }) (v := _) rfl (by kernel_rfl) (by kernel_rfl) (by kernel_rfl) (fun _ _ _ h => h) (Or.inl ⟨by rfl, ?hy24⟩) (by assumption) ?rest24
      case hy24 => (intro w' ss; (try dsimp only at ss); go_simp; first | done | with_reducible rfl)
      try simp only [Act.put, List.setIfInBounds_toArray, List.set_cons_zero, List.set_cons_succ]
      refine' wpAnyH_take (i := 7) (oi := { dst := some 63, op := Op.extract (Operand.tmp 56) 1, type := 32, pos := "law.go:139", after := #[{ on := 5, ground := Ground.data }, { on := 9, ground := Ground.gcOnly Departure.lateStores }], guard := none }) (v := _) rfl (by kernel_rfl) (by kernel_rfl) (by kernel_rfl) (fun _ _ _ h => h) (Or.inl ⟨by rfl, ?hy25⟩) (by assumption) ?rest25
      case hy25 => (intro w' ss; (try dsimp only at ss); go_simp; first | done | with_reducible rfl)
      try simp only [Act.put, List.setIfInBounds_toArray, List.set_cons_zero, List.set_cons_succ]
      refine wpAnyH_ready (rs := [9]) (by kernel_rfl) (by simp) ?_
      refine AllReadyH.cons (o := { dst := none, op := Op.store 31 (Operand.tmp 11) (Operand.tmp 62), type := 0, pos := "law.go:139", after := #[{ on := 8, ground := Ground.data }, { on := 6, ground := Ground.data }, { on := 4, ground := Ground.chain }, { on := 0, ground := Ground.phase }, { on := 1, ground := Ground.phase }, { on := 2, ground := Ground.phase }, { on := 3, ground := Ground.phase }, { on := 4, ground := Ground.phase }, { on := 5, ground := Ground.phase }, { on := 6, ground := Ground.phase }, { on := 7, ground := Ground.textOnly Departure.lateStores }, { on := 8, ground := Ground.phase }], guard := none }) rfl (fun K hK => ?_) AllReadyH.nil
      · obtain ⟨gza, gzb, gzc, gzd⟩ := gb.four
        obtain ⟨fza, fzb, fzc, fzd⟩ := gb.four'
        go_simp
        refine hK.out _ _ ?_ (fun hHeld => ?_)
        · exact hall.out _ (since_put4 hr0 hb _ _ _ _)
        clear hK K
        try simp only [Act.put, List.setIfInBounds_toArray, List.set_cons_zero, List.set_cons_succ]
        refine' wpAnyH_take (i := 10) (oi := { dst := some 12, op := Op.assign (Operand.tmp 63), type := 32, pos := "law.go:139", after := #[{ on := 7, ground := Ground.data }, { on := 9, ground := Ground.chain }, { on := 0, ground := Ground.phase }, { on := 1, ground := Ground.phase }, { on := 2, ground := Ground.phase }, { on := 3, ground := Ground.phase }, { on := 4, ground := Ground.phase }, { on := 5, ground := Ground.phase }, { on := 6, ground := Ground.phase }, { on := 7, ground := Ground.phase }, { on := 8, ground := Ground.phase }, { on := 9, ground := Ground.phase }], guard := none }) (v := _) rfl (by kernel_rfl) (by kernel_rfl) (by kernel_rfl) (fun _ _ _ h => h) (Or.inl ⟨by rfl, ?hy26⟩) (by assumption) ?rest26
        case hy26 => (intro w' ss; (try dsimp only at ss); go_simp; first | done | with_reducible rfl)
        try simp only [Act.put, List.setIfInBounds_toArray, List.set_cons_zero, List.set_cons_succ]
        refine wpAnyH_done (by kernel_rfl) ?_ _
        refine NoPanic.normal ?_
        go_wp2_with fail
        go_meet
        exact ⟨_, X1, x1, Y1, y1, rfl, rfl, since_put4 hr0 hb _ _ _ _, gb.put4 _ _ _ _, gb.rowsR r1 (put4_far _ _ _ _ _ _), gb.rowsR r2 (put4_far _ _ _ _ _ _)⟩
  case rest =>
    obtain ⟨ca, X1, x1, Y1, y1, rfl, rfl, hc, ga, r1, r2⟩ := hcut
    have hZ := hZ.trans hc
    have Va : Hid (∀ W', Since wc W' → Bx W' ca #[.bool n1, .slice X1 s1.length x1, .bool n2, .slice Y1 s2.length y1] 31) := fun W' h => ga.since h
    clear hc ga hall
    obtain ⟨wp, hwp⟩ : ∃ x, x = wc := ⟨_, rfl⟩
    subst hwp
    have hall : Hid (∀ W : World, Since wp W → W.cell? ⟨w.heap.size, 0, none⟩ = some (.bool b0) ∧ W.cell? ⟨w.heap.size, 1, none⟩ = some (.slice a0 p0.length cap0) ∧ W.cell? ⟨w.heap.size, 2, none⟩ = some (.bool sg0) ∧ W.cell? ⟨w.heap.size, 3, none⟩ = some (.slice ad0 q0.length cp0) ∧ W.cell? ⟨w.heap.size + 1, 0, none⟩ = some (.bool b1) ∧ W.cell? ⟨w.heap.size + 1, 1, none⟩ = some (.slice a1 p1.length cap1) ∧ W.cell? ⟨w.heap.size + 1, 2, none⟩ = some (.bool sg1) ∧ W.cell? ⟨w.heap.size + 1, 3, none⟩ = some (.slice ad1 q1.length cp1) ∧ W.cell? ⟨w.heap.size + 1 + 1, 0, none⟩ = some (.bool b2) ∧ W.cell? ⟨w.heap.size + 1 + 1, 1, none⟩ = some (.slice a2 p2.length cap2) ∧ W.cell? ⟨w.heap.size + 1 + 1, 2, none⟩ = some (.bool sg2) ∧ W.cell? ⟨w.heap.size + 1 + 1, 3, none⟩ = some (.slice ad2 q2.length cp2)) := fun W h => by
      obtain ⟨B0, B1, B2⟩ := hbx.out _ (hZ.trans h)
      obtain ⟨k0a, k0b, k0c, k0d⟩ := B0.four
      obtain ⟨k1a, k1b, k1c, k1d⟩ := B1.four
      obtain ⟨k2a, k2b, k2c, k2d⟩ := B2.four
      exact ⟨k0a, k0b, k0c, k0d, k1a, k1b, k1c, k1d, k2a, k2b, k2c, k2d⟩
    go_upto_region 8 with fail
    go_cut [13, 14] (fun pP pE W => ∃ (c0 : Nat) (X3 : Option Addr) (x3 : Nat) (Y3 : Option Addr) (y3 : Nat), pP = .pointer (some ⟨c0, 0, none⟩) ∧ pE = .int .i64 0 ∧ Since wp W ∧ Bx W c0 #[.bool n3, .slice X3 s3.length x3, .bool n4, .slice Y3 s4.length y3] 31 ∧ Row W (.slice X3 s3.length x3) s3 ∧ Row W (.slice Y3 s4.length y3) s4)
    case first =>
      have hr0 : Since wp wp.drew := Since.drew (Since.refl wp)
      refine wp_region_noPanic ?_
      refine Reg.wp_region_G (S := fun W => W.cell? ⟨w.heap.size, 0, none⟩ = some (.bool b0) ∧ W.cell? ⟨w.heap.size, 1, none⟩ = some (.slice a0 p0.length cap0) ∧ W.cell? ⟨w.heap.size, 2, none⟩ = some (.bool sg0) ∧ W.cell? ⟨w.heap.size, 3, none⟩ = some (.slice ad0 q0.length cp0) ∧ W.cell? ⟨w.heap.size + 1, 0, none⟩ = some (.bool b1) ∧ W.cell? ⟨w.heap.size + 1, 1, none⟩ = some (.slice a1 p1.length cap1) ∧ W.cell? ⟨w.heap.size + 1, 2, none⟩ = some (.bool sg1) ∧ W.cell? ⟨w.heap.size + 1, 3, none⟩ = some (.slice ad1 q1.length cp1) ∧ W.cell? ⟨w.heap.size + 1 + 1, 0, none⟩ = some (.bool b2) ∧ W.cell? ⟨w.heap.size + 1 + 1, 1, none⟩ = some (.slice a2 p2.length cap2) ∧ W.cell? ⟨w.heap.size + 1 + 1, 2, none⟩ = some (.bool sg2) ∧ W.cell? ⟨w.heap.size + 1 + 1, 3, none⟩ = some (.slice ad2 q2.length cp2)) (fun j => [4, 5, 6, 7, 9, 10].contains j) (by kernel_rfl) ?_ ?_
      · exact hall.out _ hr0
      refine' Reg.wpG_take (i := 0) (oi := { dst := some 65, op := Op.load 26 (Operand.tmp 4), type := 26, pos := "law.go:140", after := #[], guard := none }) (v := _) [1, 3, 4, 5, 6, 7, 9, 10] [4, 5, 6, 7, 9, 10] rfl rfl (by kernel_rfl) (by kernel_rfl) (by kernel_rfl) (by kernel_rfl) (by kernel_rfl) (by kernel_rfl) (by kernel_rfl) (fun _ _ _ h => h) (Or.inl ⟨by rfl, Or.inl ?hy27⟩) ?rest27
      case hy27 => (intro w' kk ss; (try dsimp only at ss); go_simp; first | done | with_reducible rfl)
      try simp only [Act.put, List.setIfInBounds_toArray, List.set_cons_zero, List.set_cons_succ]
      refine Reg.wpG_take (i := 1) (oi := { dst := some 66, op := Op.call { callee := Callee.value (Operand.func 12), args := #[Operand.tmp 65], argTypes := #[26] }, type := 31, pos := "law.go:140", after := #[{ on := 0, ground := Ground.data }], guard := none }) (v := .agg #[.bool b1, .slice a1 p1.length cap1, .bool sg1, .slice ad1 q1.length cp1]) [3, 4, 5, 6, 7, 9, 10] [4, 5, 6, 7, 9, 10] rfl rfl (by kernel_rfl) (by kernel_rfl) (by kernel_rfl) (by kernel_rfl) (by kernel_rfl) (by kernel_rfl) (by kernel_rfl) (fun _ _ _ h => h) (Or.inl ⟨by rfl, Or.inr ⟨12, #[.agg #[.bool b1, .slice a1 p1.length cap1, .bool sg1, .slice ad1 q1.length cp1]], fun w' kk ss => ⟨?_, ?_⟩⟩⟩) ?_
      · (try dsimp only at ss); go_simp
      · exact (Law04.theirs_any a1 ad1 p1.length cap1 q1.length cp1 b1 sg1 w').mono fun e w'' h => ⟨h.1, h.2, hall.out _ (hr0.trans (kk.trans h.2))⟩
      try simp only [Act.put, List.setIfInBounds_toArray, List.set_cons_zero, List.set_cons_succ]
      refine' Reg.wpG_take (i := 2) (oi := { dst := some 67, op := Op.load 26 (Operand.tmp 5), type := 26, pos := "law.go:140", after := #[], guard := none }) (v := _) [3, 4, 5, 6, 7, 9, 10] [4, 5, 6, 7, 9, 10] rfl rfl (by kernel_rfl) (by kernel_rfl) (by kernel_rfl) (by kernel_rfl) (by kernel_rfl) (by kernel_rfl) (by kernel_rfl) (fun _ _ _ h => h) (Or.inl ⟨by rfl, Or.inl ?hy28⟩) ?rest28
      case hy28 => (intro w' kk ss; (try dsimp only at ss); go_simp; first | done | with_reducible rfl)
      try simp only [Act.put, List.setIfInBounds_toArray, List.set_cons_zero, List.set_cons_succ]
      refine Reg.wpG_take (i := 3) (oi := { dst := some 68, op := Op.call { callee := Callee.value (Operand.func 12), args := #[Operand.tmp 67], argTypes := #[26] }, type := 31, pos := "law.go:140", after := #[{ on := 2, ground := Ground.data }, { on := 1, ground := Ground.chain }], guard := none }) (v := .agg #[.bool b2, .slice a2 p2.length cap2, .bool sg2, .slice ad2 q2.length cp2]) [4, 5, 6, 7, 9, 10] [4, 5, 6, 7, 9, 10] rfl rfl (by kernel_rfl) (by kernel_rfl) (by kernel_rfl) (by kernel_rfl) (by kernel_rfl) (by kernel_rfl) (by kernel_rfl) (fun _ _ _ h => h) (Or.inl ⟨by rfl, Or.inr ⟨12, #[.agg #[.bool b2, .slice a2 p2.length cap2, .bool sg2, .slice ad2 q2.length cp2]], fun w' kk ss => ⟨?_, ?_⟩⟩⟩) ?_
      · (try dsimp only at ss); go_simp
      · exact (Law04.theirs_any a2 ad2 p2.length cap2 q2.length cp2 b2 sg2 w').mono fun e w'' h => ⟨h.1, h.2, hall.out _ (hr0.trans (kk.trans h.2))⟩
      try simp only [Act.put, List.setIfInBounds_toArray, List.set_cons_zero, List.set_cons_succ]
      refine Reg.wpG_ready (rs := [4, 8]) (by kernel_rfl) (by simp) (fun wq1 k1' sq1 => ?_)
      have hr0 := hr0.trans k1'
      have hb : wp.heap.size ≤ wq1.heap.size := hr0.size
      refine Reg.AllG.last (o := { dst := some 69, op := Op.call { callee := Callee.value (Operand.func 11), args := #[Operand.tmp 66, Operand.tmp 68], argTypes := #[31, 31] }, type := 33, pos := "law.go:140", after := #[{ on := 1, ground := Ground.data }, { on := 3, ground := Ground.data }, { on := 3, ground := Ground.chain }], guard := none }) rfl (by rfl) (fun K hK => ?_) (Reg.AllG.first (o := { dst := some 13, op := Op.alloc 31, type := 0, pos := "law.go:140", after := #[], guard := none }) rfl (by rfl) (fun K hK => ?_) Reg.AllG.nil)
      · go_simp
        (with_reducible refine ((Sr04.add_any a1 ad1 a2 ad2 cap1 cp1 cap2 cp2 b1 sg1 b2 sg2 p1 q1 p2 q2 wq1 (P1.out.since (hS0.trans (hZ.trans hr0))) (Q1.out.since (hS0.trans (hZ.trans hr0))) (P2.out.since (hS0.trans (hZ.trans hr0))) (Q2.out.since (hS0.trans (hZ.trans hr0))) (by have := FW.out; omega) (by have := FW.out; omega) (by have := FW.out; omega) (by have := FW.out; omega)).mono fun _ _ h => RetF.at E4.out h).mono ?_)
        rintro e y ⟨X3, x3, Y3, y3, rfl, r3, r4, hx⟩
        have hr0 := hr0.trans hx
        have hb : wp.heap.size ≤ y.heap.size := hr0.size
        refine hK.out _ _ ?_ (fun hHeld => ?_)
        · exact hall.out _ hr0
        clear hK K
        try simp only [Act.put, List.setIfInBounds_toArray, List.set_cons_zero, List.set_cons_succ]
        refine' wpAnyH_take (i := 5) (oi := { dst := some 64, op := Op.move (Operand.tmp 69), type := 33, pos := "law.go:140", after := #[{ on := 4, ground := Ground.data }], guard := none }) (v := _) rfl (by kernel_rfl) (by kernel_rfl) (by kernel_rfl) (fun _ _ _ h => h) (Or.inl ⟨by rfl, ?hy29⟩) (by assumption) ?rest29
        case hy29 => (intro w' ss; (try dsimp only at ss); go_simp; first | done | with_reducible rfl)
        try simp only [Act.put, List.setIfInBounds_toArray, List.set_cons_zero, List.set_cons_succ]
        refine' wpAnyH_take (i := 6) (oi := { dst := some 70, op := Op.extract (Operand.tmp 64) 0, type := 31, pos := "law.go:140", after := #[{ on := 5, ground := Ground.data }], guard := none }) (v := _) rfl (by kernel_rfl) (by kernel_rfl) (by kernel_rfl) (fun _ _ _ h => h) (Or.inl ⟨by rfl, ?hy30⟩) (by assumption) ?rest30
        case hy30 => (intro w' ss; (try dsimp only at ss); go_simp; first | done | with_reducible rfl)
        try simp only [Act.put, List.setIfInBounds_toArray, List.set_cons_zero, List.set_cons_succ]
        refine' wpAnyH_take (i := 7) (oi := { dst := some 71, op := Op.extract (Operand.tmp 64) 1, type := 32, pos := "law.go:140", after := #[{ on := 5, ground := Ground.data }, { on := 9, ground := Ground.gcOnly Departure.lateStores }], guard := none }) (v := _) rfl (by kernel_rfl) (by kernel_rfl) (by kernel_rfl) (fun _ _ _ h => h) (Or.inl ⟨by rfl, ?hy31⟩) (by assumption) ?rest31
        case hy31 => (intro w' ss; (try dsimp only at ss); go_simp; first | done | with_reducible rfl)
        try simp only [Act.put, List.setIfInBounds_toArray, List.set_cons_zero, List.set_cons_succ]
        refine wpAnyH_ready (rs := [8]) (by kernel_rfl) (by simp) ?_
        refine AllReadyH.cons (o := { dst := some 13, op := Op.alloc 31, type := 0, pos := "law.go:140", after := #[], guard := none }) rfl (fun K hK => ?_) AllReadyH.nil
        · go_simp
          refine hK.out _ _ ?_ (fun hHeld => ?_)
          · exact hall.out _ (hr0.trans (since_alloc _ _))
          clear hK K
          try simp only [Act.put, List.setIfInBounds_toArray, List.set_cons_zero, List.set_cons_succ]
          have gb := Bx.fresh y #[.bool false, .slice none 0 0, .bool false, .slice none 0 0] 31
          refine wpAnyH_ready (rs := [9]) (by kernel_rfl) (by simp) ?_
          refine AllReadyH.cons (o := { dst := none, op := Op.store 31 (Operand.tmp 13) (Operand.tmp 70), type := 0, pos := "law.go:140", after := #[{ on := 8, ground := Ground.data }, { on := 6, ground := Ground.data }, { on := 4, ground := Ground.chain }, { on := 0, ground := Ground.phase }, { on := 1, ground := Ground.phase }, { on := 2, ground := Ground.phase }, { on := 3, ground := Ground.phase }, { on := 4, ground := Ground.phase }, { on := 5, ground := Ground.phase }, { on := 6, ground := Ground.phase }, { on := 7, ground := Ground.textOnly Departure.lateStores }, { on := 8, ground := Ground.phase }], guard := none }) rfl (fun K hK => ?_) AllReadyH.nil
          · obtain ⟨gza, gzb, gzc, gzd⟩ := gb.four
            obtain ⟨fza, fzb, fzc, fzd⟩ := gb.four'
            go_simp
            refine hK.out _ _ ?_ (fun hHeld => ?_)
            · exact hall.out _ (hr0.trans (since_alloc _ _))
            clear hK K
            try simp only [Act.put, List.setIfInBounds_toArray, List.set_cons_zero, List.set_cons_succ]
            refine' wpAnyH_take (i := 10) (oi := { dst := some 14, op := Op.assign (Operand.tmp 71), type := 32, pos := "law.go:140", after := #[{ on := 7, ground := Ground.data }, { on := 9, ground := Ground.chain }, { on := 0, ground := Ground.phase }, { on := 1, ground := Ground.phase }, { on := 2, ground := Ground.phase }, { on := 3, ground := Ground.phase }, { on := 4, ground := Ground.phase }, { on := 5, ground := Ground.phase }, { on := 6, ground := Ground.phase }, { on := 7, ground := Ground.phase }, { on := 8, ground := Ground.phase }, { on := 9, ground := Ground.phase }], guard := none }) (v := _) rfl (by kernel_rfl) (by kernel_rfl) (by kernel_rfl) (fun _ _ _ h => h) (Or.inl ⟨by rfl, ?hy32⟩) (by assumption) ?rest32
            case hy32 => (intro w' ss; (try dsimp only at ss); go_simp; first | done | with_reducible rfl)
            try simp only [Act.put, List.setIfInBounds_toArray, List.set_cons_zero, List.set_cons_succ]
            refine wpAnyH_done (by kernel_rfl) ?_ _
            refine NoPanic.normal ?_
            go_wp2_with fail
            go_meet
            exact ⟨_, X3, x3, Y3, y3, rfl, rfl, hr0.trans (since_alloc _ _), Bx.fresh _ _ _, r3.since (since_alloc _ _), r4.since (since_alloc _ _)⟩
      · go_simp
        refine hK.out _ _ ?_ (since_alloc _ _) ?_
        · exact hall.out _ (hr0.trans (since_alloc _ _))
        clear hK K
        try simp only [Act.put, List.setIfInBounds_toArray, List.set_cons_zero, List.set_cons_succ]
        have gb := Bx.fresh wq1 #[.bool false, .slice none 0 0, .bool false, .slice none 0 0] 31
        have hr0 := hr0.trans (since_alloc wq1 (.cells #[.bool false, .slice none 0 0, .bool false, .slice none 0 0] 31))
        refine Reg.wpG_ready (rs := [4]) (by kernel_rfl) (by simp) (fun wq2 k2' sq2 => ?_)
        have hr0 := hr0.trans k2'
        have gb := gb.since k2'
        refine Reg.AllG.last (o := { dst := some 69, op := Op.call { callee := Callee.value (Operand.func 11), args := #[Operand.tmp 66, Operand.tmp 68], argTypes := #[31, 31] }, type := 33, pos := "law.go:140", after := #[{ on := 1, ground := Ground.data }, { on := 3, ground := Ground.data }, { on := 3, ground := Ground.chain }], guard := none }) rfl (by rfl) (fun K hK => ?_) Reg.AllG.nil
        go_simp
        (with_reducible refine ((Sr04.add_any a1 ad1 a2 ad2 cap1 cp1 cap2 cp2 b1 sg1 b2 sg2 p1 q1 p2 q2 wq2 (P1.out.since (hS0.trans (hZ.trans hr0))) (Q1.out.since (hS0.trans (hZ.trans hr0))) (P2.out.since (hS0.trans (hZ.trans hr0))) (Q2.out.since (hS0.trans (hZ.trans hr0))) (by have := FW.out; omega) (by have := FW.out; omega) (by have := FW.out; omega) (by have := FW.out; omega)).mono fun _ _ h => RetF.at E4.out h).mono ?_)
        rintro e y ⟨X3, x3, Y3, y3, rfl, r3, r4, hx⟩
        have hr0 := hr0.trans hx
        have gb := gb.since hx
        generalize wq1.heap.size = bq at *
        refine hK.out _ _ ?_ (fun hHeld => ?_)
        · exact hall.out _ hr0
        clear hK K
        try simp only [Act.put, List.setIfInBounds_toArray, List.set_cons_zero, List.set_cons_succ]
        refine' wpAnyH_take (i := 5) (oi := { dst := some 64, op := Op.move (Operand.tmp 69), type := 33, pos := "law.go:140", after := #[{ on := 4, ground := Ground.data }], guard := none }) (v := _) rfl (by kernel_rfl) (by kernel_rfl) (by kernel_rfl) (fun _ _ _ h => h) (Or.inl ⟨by rfl, ?hy33⟩) (by assumption) ?rest33
        case hy33 => (intro w' ss; (try dsimp only at ss); go_simp; first | done | with_reducible rfl)
        try simp only [Act.put, List.setIfInBounds_toArray, List.set_cons_zero, List.set_cons_succ]
        refine' wpAnyH_take (i := 6) (oi := { dst := some 70, op := Op.extract (Operand.tmp 64) 0, type := 31, pos := "law.go:140", after := #[{ on := 5, ground := Ground.data }], guard := none }) (v := _) rfl (by kernel_rfl) (by kernel_rfl) (by kernel_rfl) (fun _ _ _ h => h) (Or.inl ⟨by rfl, ?hy34⟩) (by assumption) ?rest34
        case hy34 => (intro w' ss; (try dsimp only at ss); go_simp; first | done | with_reducible rfl)
        try simp only [Act.put, List.setIfInBounds_toArray, List.set_cons_zero, List.set_cons_succ]
        refine' wpAnyH_take (i := 7) (oi := { dst := some 71, op := Op.extract (Operand.tmp 64) 1, type := 32, pos := "law.go:140", after := #[{ on := 5, ground := Ground.data }, { on := 9, ground := Ground.gcOnly Departure.lateStores }], guard := none }) (v := _) rfl (by kernel_rfl) (by kernel_rfl) (by kernel_rfl) (fun _ _ _ h => h) (Or.inl ⟨by rfl, ?hy35⟩) (by assumption) ?rest35
        case hy35 => (intro w' ss; (try dsimp only at ss); go_simp; first | done | with_reducible rfl)
        try simp only [Act.put, List.setIfInBounds_toArray, List.set_cons_zero, List.set_cons_succ]
        refine wpAnyH_ready (rs := [9]) (by kernel_rfl) (by simp) ?_
        refine AllReadyH.cons (o := { dst := none, op := Op.store 31 (Operand.tmp 13) (Operand.tmp 70), type := 0, pos := "law.go:140", after := #[{ on := 8, ground := Ground.data }, { on := 6, ground := Ground.data }, { on := 4, ground := Ground.chain }, { on := 0, ground := Ground.phase }, { on := 1, ground := Ground.phase }, { on := 2, ground := Ground.phase }, { on := 3, ground := Ground.phase }, { on := 4, ground := Ground.phase }, { on := 5, ground := Ground.phase }, { on := 6, ground := Ground.phase }, { on := 7, ground := Ground.textOnly Departure.lateStores }, { on := 8, ground := Ground.phase }], guard := none }) rfl (fun K hK => ?_) AllReadyH.nil
        · obtain ⟨gza, gzb, gzc, gzd⟩ := gb.four
          obtain ⟨fza, fzb, fzc, fzd⟩ := gb.four'
          go_simp
          refine hK.out _ _ ?_ (fun hHeld => ?_)
          · exact hall.out _ (since_put4 hr0 hb _ _ _ _)
          clear hK K
          try simp only [Act.put, List.setIfInBounds_toArray, List.set_cons_zero, List.set_cons_succ]
          refine' wpAnyH_take (i := 10) (oi := { dst := some 14, op := Op.assign (Operand.tmp 71), type := 32, pos := "law.go:140", after := #[{ on := 7, ground := Ground.data }, { on := 9, ground := Ground.chain }, { on := 0, ground := Ground.phase }, { on := 1, ground := Ground.phase }, { on := 2, ground := Ground.phase }, { on := 3, ground := Ground.phase }, { on := 4, ground := Ground.phase }, { on := 5, ground := Ground.phase }, { on := 6, ground := Ground.phase }, { on := 7, ground := Ground.phase }, { on := 8, ground := Ground.phase }, { on := 9, ground := Ground.phase }], guard := none }) (v := _) rfl (by kernel_rfl) (by kernel_rfl) (by kernel_rfl) (fun _ _ _ h => h) (Or.inl ⟨by rfl, ?hy36⟩) (by assumption) ?rest36
          case hy36 => (intro w' ss; (try dsimp only at ss); go_simp; first | done | with_reducible rfl)
          try simp only [Act.put, List.setIfInBounds_toArray, List.set_cons_zero, List.set_cons_succ]
          refine wpAnyH_done (by kernel_rfl) ?_ _
          refine NoPanic.normal ?_
          go_wp2_with fail
          go_meet
          exact ⟨_, X3, x3, Y3, y3, rfl, rfl, since_put4 hr0 hb _ _ _ _, gb.put4 _ _ _ _, gb.rowsR r3 (put4_far _ _ _ _ _ _), gb.rowsR r4 (put4_far _ _ _ _ _ _)⟩
    case rest =>
      obtain ⟨cn, X3, x3, Y3, y3, rfl, rfl, hc, gn, r3, r4⟩ := hcut
      have hS := hZ.trans hc
      have Vn : Hid (∀ W', Since wc W' → Bx W' cn #[.bool n3, .slice X3 s3.length x3, .bool n4, .slice Y3 s4.length y3] 31) := fun W' h => gn.since h
      have Va : Hid (∀ W', Since wc W' → _) := fun W' h => Va.out W' (hc.trans h)
      have r1 := r1.since hc
      have r2 := r2.since hc
      clear hc gn hall hZ
      have hK := Since.refl wc
      obtain ⟨B0, B1, B2⟩ := hbx.out _ (hS.trans hK)
      obtain ⟨k0a, k0b, k0c, k0d⟩ := B0.four
      obtain ⟨k1a, k1b, k1c, k1d⟩ := B1.four
      obtain ⟨k2a, k2b, k2c, k2d⟩ := B2.four
      obtain ⟨va, vb, vc, vd⟩ := (Va.out _ hK).four
      obtain ⟨na, nb, nc, nd⟩ := (Vn.out _ hK).four
      go_upto_region 10 with (first
        | (go_at_call 16; (with_reducible refine (cmp_val (ns := Sr04.cmp_any X1 Y1 X3 Y3 x1 y1 x3 y3 n1 n2 n3 n4 s1 s2 s3 s4 _ (r1.since hK) (r2.since hK) (r3.since hK) (r4.since hK) (by have := LA.out; omega) (by have := LA.out; omega) (by have := LB.out; omega) (by have := LB.out; omega)) E5.out).mono ?_); rintro e v9 ⟨rfl, h⟩; have hK := hK.trans h; obtain ⟨B0, B1, B2⟩ := hbx.out _ (hS.trans hK); obtain ⟨k0a, k0b, k0c, k0d⟩ := B0.four; obtain ⟨k1a, k1b, k1c, k1d⟩ := B1.four; obtain ⟨k2a, k2b, k2c, k2d⟩ := B2.four))
      rcases H4.out with rfl | rfl | rfl
      · go_wp2_with (first
          | (go_at_call 18; (with_reducible refine (same_val (ns := Ref04.same_any a0 ad0 a1 ad1 cap0 cp0 cap1 cp1 b0 sg0 b1 sg1 p0 q0 p1 q1 _ (P0.out.since (hS0.trans (hS.trans hK))) (Q0.out.since (hS0.trans (hS.trans hK))) (P1.out.since (hS0.trans (hS.trans hK))) (Q1.out.since (hS0.trans (hS.trans hK))) (by have := FW.out; omega) (by have := FW.out; omega) (by have := FW.out; omega) (by have := FW.out; omega)) SM.out).mono ?_); rintro e v10 ⟨rfl, h⟩; have hK := hK.trans h))
        go_ret
        exact ⟨rfl, hS0.trans (hS.trans hK)⟩
      · go_wp2_with (first
          | (go_at_call 18; (with_reducible refine (same_val (ns := Ref04.same_any a0 ad0 a1 ad1 cap0 cp0 cap1 cp1 b0 sg0 b1 sg1 p0 q0 p1 q1 _ (P0.out.since (hS0.trans (hS.trans hK))) (Q0.out.since (hS0.trans (hS.trans hK))) (P1.out.since (hS0.trans (hS.trans hK))) (Q1.out.since (hS0.trans (hS.trans hK))) (by have := FW.out; omega) (by have := FW.out; omega) (by have := FW.out; omega) (by have := FW.out; omega)) SM.out).mono ?_); rintro e v10 ⟨rfl, h⟩; have hK := hK.trans h))
        go_ret
        exact ⟨rfl, hS0.trans (hS.trans hK)⟩
      · go_wp2_with (first
          | (go_at_call 18; (with_reducible refine (same_val (ns := Ref04.same_any a0 ad0 a1 ad1 cap0 cp0 cap1 cp1 b0 sg0 b1 sg1 p0 q0 p1 q1 _ (P0.out.since (hS0.trans (hS.trans hK))) (Q0.out.since (hS0.trans (hS.trans hK))) (P1.out.since (hS0.trans (hS.trans hK))) (Q1.out.since (hS0.trans (hS.trans hK))) (by have := FW.out; omega) (by have := FW.out; omega) (by have := FW.out; omega) (by have := FW.out; omega)) SM.out).mono ?_); rintro e v10 ⟨rfl, h⟩; have hK := hK.trans h))
        go_ret
        exact ⟨rfl, hS0.trans (hS.trans hK)⟩

set_option maxRecDepth 100000 in
theorem lifted (os : Os) (started : os.Started) (H : Type) (enc : TypeId × Value → H) :
    ReturnsInHanded {} Tryz.checked os 7 .any (fun w args => (Rows.ratioOrderSpec.pre enc Tryz.prog Tryz.f7 Rows.ratioOrderRow.domain false w args ∧ laidMetH Tryz.prog Rows.ratioOrderRow.laid w) ∧ sizedMet enc Tryz.prog Tryz.f7 (OpenSpec.ofChange Rows.ratioOrderSpec) false w args) (Rows.ratioOrderSpec.post enc Tryz.prog Tryz.f7 false true false false) := by
  refine returnsInHanded_of_change_and (C := Tryz.checked) (X := fun w _ => laidMetH Tryz.prog Rows.ratioOrderRow.laid w) (fun _ _ _ hh h => h.of_heap hh) own started (by kernel_rfl) Tryz.func7
    (ChangeSpec.witness_shaped (enc := enc) (C := Tryz.checked) (os := os) (X := fun w _ => laidMetH Tryz.prog Rows.ratioOrderRow.laid w) false (World.laidAll Tryz.prog os Rows.ratioOrderRow.laid) #[.agg #[.bool false, .slice none 0 0, .bool false, .slice none 0 0], .agg #[.bool false, .slice none 0 0, .bool false, .slice none 0 0], .agg #[.bool false, .slice none 0 0, .bool false, .slice none 0 0]] 8 (World.laidAll_os _ _ _)
      (World.shaped_of_ZipB (by kernel_rfl) (by kernel_rfl)) (by kernel_rfl) (by kernel_rfl) (by kernel_rfl)
      (by rw [MakeChecks.laidMetH_plain _ _ _ (by kernel_rfl)]; exact laidMet_laidAll _ (by kernel_rfl) (by kernel_rfl))) ?_
  intro W base args ds gs before hval0 hW hcnd _ _ _
  have hval : ∀ (j : Nat) t v, Tryz.f7.params[j]? = some t → args[j]? = some v → Value.okWide Tryz.prog W .any base t v := hval0
  have hW' := hW
  obtain ⟨p, q, hA0, hV, rfl, hfz, hnd⟩ := hW
  have hA : DataW.TrodAll enc Tryz.prog W 0 (fun _ => true) true Tryz.f7.params.toList args.toList ds p := hA0
  rw [Tryz.params7] at hA hval
  obtain ⟨v0, vs0, d0, ds0, p0, q0, hargs, rfl, rfl, h0, r0⟩ := trodAll_cons hA
  obtain ⟨v1, vs1, d1, ds1, p1, q1, rfl, rfl, rfl, h1, r1⟩ := trodAll_cons r0
  obtain ⟨v2, vs2, d2, ds2, p2, q2, rfl, rfl, rfl, h2, r2⟩ := trodAll_cons r1
  obtain ⟨rfl, rfl, rfl⟩ := trodAll_nil r2
  obtain rfl : args = #[v0, v1, v2] := by cases args; simp_all
  obtain ⟨rfl, rfl⟩ := trodVars_none hV
  have k0 := h0
  have lt0 : ∀ x ∈ p0, x.block < W.heap.size := by obtain ⟨m, hm⟩ := k0; exact DataW.trod_lt m _ _ _ hm
  obtain ⟨cb0, cm0, ce0, cr0, yb0, ym0, ye0, yr0, nn0, mm0, rfl, hb0, hm0, he0, hr0⟩ := open_rat Tryz.underlying26 Tryz.underlying24 Tryz.underlying24 rfl rfl cells26 cells24 cells24 (by kernel_rfl) (hval 0 26 v0 rfl rfl) h0
  obtain ⟨b0, ebb0, xbb0⟩ := DataW.trod_bool Tryz.underlying4 hb0
  simp at ebb0
  subst ebb0
  obtain ⟨sg0, ebsg0, xbsg0⟩ := DataW.trod_bool Tryz.underlying4 he0
  simp at ebsg0
  subst ebsg0
  obtain ⟨a0, len0, cap0, em0⟩ := slice_form Tryz.underlying22 hm0
  simp at em0
  subst em0
  obtain ⟨ad0, ln0, cp0, er0⟩ := slice_form Tryz.underlying22 hr0
  simp at er0
  subst er0
  obtain ⟨z0, w0⟩ : ∃ zs, IsRow .u32 W a0 len0 cap0 zs := by
    have hf := hm0
    rcases open_ints Tryz.underlying22 Tryz.underlying88 (by kernel_rfl) hf with ⟨hcs, _⟩ | ⟨x, l, c, zs, hcs, _, hl, hm, hz, _, hcell, hwz⟩
    · simp [Value.cells] at hcs
      obtain ⟨rfl, rfl, rfl⟩ := hcs
      exact ⟨[], .inl ⟨rfl, rfl, rfl, rfl⟩⟩
    · simp [Value.cells] at hcs
      obtain ⟨rfl, rfl, rfl⟩ := hcs
      exact ⟨zs, .inr ⟨_, rfl, hl, hm, by simpa using hz, hcell, hwz⟩⟩
  obtain ⟨y0, u0⟩ : ∃ zs, IsRow .u32 W ad0 ln0 cp0 zs := by
    have hf := hr0
    rcases open_ints Tryz.underlying22 Tryz.underlying88 (by kernel_rfl) hf with ⟨hcs, _⟩ | ⟨x, l, c, zs, hcs, _, hl, hm, hz, _, hcell, hwz⟩
    · simp [Value.cells] at hcs
      obtain ⟨rfl, rfl, rfl⟩ := hcs
      exact ⟨[], .inl ⟨rfl, rfl, rfl, rfl⟩⟩
    · simp [Value.cells] at hcs
      obtain ⟨rfl, rfl, rfl⟩ := hcs
      exact ⟨zs, .inr ⟨_, rfl, hl, hm, by simpa using hz, hcell, hwz⟩⟩
  have k1 := h1
  have lt1 : ∀ x ∈ p1, x.block < W.heap.size := by obtain ⟨m, hm⟩ := k1; exact DataW.trod_lt m _ _ _ hm
  obtain ⟨cb1, cm1, ce1, cr1, yb1, ym1, ye1, yr1, nn1, mm1, rfl, hb1, hm1, he1, hr1⟩ := open_rat Tryz.underlying26 Tryz.underlying24 Tryz.underlying24 rfl rfl cells26 cells24 cells24 (by kernel_rfl) (hval 1 26 v1 rfl rfl) h1
  obtain ⟨b1, ebb1, xbb1⟩ := DataW.trod_bool Tryz.underlying4 hb1
  simp at ebb1
  subst ebb1
  obtain ⟨sg1, ebsg1, xbsg1⟩ := DataW.trod_bool Tryz.underlying4 he1
  simp at ebsg1
  subst ebsg1
  obtain ⟨a1, len1, cap1, em1⟩ := slice_form Tryz.underlying22 hm1
  simp at em1
  subst em1
  obtain ⟨ad1, ln1, cp1, er1⟩ := slice_form Tryz.underlying22 hr1
  simp at er1
  subst er1
  obtain ⟨z1, w1⟩ : ∃ zs, IsRow .u32 W a1 len1 cap1 zs := by
    have hf := hm1
    rcases open_ints Tryz.underlying22 Tryz.underlying88 (by kernel_rfl) hf with ⟨hcs, _⟩ | ⟨x, l, c, zs, hcs, _, hl, hm, hz, _, hcell, hwz⟩
    · simp [Value.cells] at hcs
      obtain ⟨rfl, rfl, rfl⟩ := hcs
      exact ⟨[], .inl ⟨rfl, rfl, rfl, rfl⟩⟩
    · simp [Value.cells] at hcs
      obtain ⟨rfl, rfl, rfl⟩ := hcs
      exact ⟨zs, .inr ⟨_, rfl, hl, hm, by simpa using hz, hcell, hwz⟩⟩
  obtain ⟨y1, u1⟩ : ∃ zs, IsRow .u32 W ad1 ln1 cp1 zs := by
    have hf := hr1
    rcases open_ints Tryz.underlying22 Tryz.underlying88 (by kernel_rfl) hf with ⟨hcs, _⟩ | ⟨x, l, c, zs, hcs, _, hl, hm, hz, _, hcell, hwz⟩
    · simp [Value.cells] at hcs
      obtain ⟨rfl, rfl, rfl⟩ := hcs
      exact ⟨[], .inl ⟨rfl, rfl, rfl, rfl⟩⟩
    · simp [Value.cells] at hcs
      obtain ⟨rfl, rfl, rfl⟩ := hcs
      exact ⟨zs, .inr ⟨_, rfl, hl, hm, by simpa using hz, hcell, hwz⟩⟩
  have k2 := h2
  have lt2 : ∀ x ∈ p2, x.block < W.heap.size := by obtain ⟨m, hm⟩ := k2; exact DataW.trod_lt m _ _ _ hm
  obtain ⟨cb2, cm2, ce2, cr2, yb2, ym2, ye2, yr2, nn2, mm2, rfl, hb2, hm2, he2, hr2⟩ := open_rat Tryz.underlying26 Tryz.underlying24 Tryz.underlying24 rfl rfl cells26 cells24 cells24 (by kernel_rfl) (hval 2 26 v2 rfl rfl) h2
  obtain ⟨b2, ebb2, xbb2⟩ := DataW.trod_bool Tryz.underlying4 hb2
  simp at ebb2
  subst ebb2
  obtain ⟨sg2, ebsg2, xbsg2⟩ := DataW.trod_bool Tryz.underlying4 he2
  simp at ebsg2
  subst ebsg2
  obtain ⟨a2, len2, cap2, em2⟩ := slice_form Tryz.underlying22 hm2
  simp at em2
  subst em2
  obtain ⟨ad2, ln2, cp2, er2⟩ := slice_form Tryz.underlying22 hr2
  simp at er2
  subst er2
  obtain ⟨z2, w2⟩ : ∃ zs, IsRow .u32 W a2 len2 cap2 zs := by
    have hf := hm2
    rcases open_ints Tryz.underlying22 Tryz.underlying88 (by kernel_rfl) hf with ⟨hcs, _⟩ | ⟨x, l, c, zs, hcs, _, hl, hm, hz, _, hcell, hwz⟩
    · simp [Value.cells] at hcs
      obtain ⟨rfl, rfl, rfl⟩ := hcs
      exact ⟨[], .inl ⟨rfl, rfl, rfl, rfl⟩⟩
    · simp [Value.cells] at hcs
      obtain ⟨rfl, rfl, rfl⟩ := hcs
      exact ⟨zs, .inr ⟨_, rfl, hl, hm, by simpa using hz, hcell, hwz⟩⟩
  obtain ⟨y2, u2⟩ : ∃ zs, IsRow .u32 W ad2 ln2 cp2 zs := by
    have hf := hr2
    rcases open_ints Tryz.underlying22 Tryz.underlying88 (by kernel_rfl) hf with ⟨hcs, _⟩ | ⟨x, l, c, zs, hcs, _, hl, hm, hz, _, hcell, hwz⟩
    · simp [Value.cells] at hcs
      obtain ⟨rfl, rfl, rfl⟩ := hcs
      exact ⟨[], .inl ⟨rfl, rfl, rfl, rfl⟩⟩
    · simp [Value.cells] at hcs
      obtain ⟨rfl, rfl, rfl⟩ := hcs
      exact ⟨zs, .inr ⟨_, rfl, hl, hm, by simpa using hz, hcell, hwz⟩⟩
  clear hA0 hval0
  refine (walk b0 a0 len0 cap0 sg0 ad0 ln0 cp0 z0 y0 b1 a1 len1 cap1 sg1 ad1 ln1 cp1 z1 y1 b2 a2 len2 cap2 sg2 ad2 ln2 cp2 z2 y2 W w0 u0 w1 u1 w2 u2).mono fun e W' ⟨he, bel⟩ => ?_
  subst he
  exact ⟨_, rfl, _, _, _, [], _, [], hW', trodAll_mk1 (shut_bool Tryz.underlying4 _), (trodAll_cons_mk (Below.trod laidOut (by kernel_rfl) (of_decide_eq_true (by kernel_rfl)) k0 bel lt0) (trodAll_cons_mk (Below.trod laidOut (by kernel_rfl) (of_decide_eq_true (by kernel_rfl)) k1 bel lt1) (trodAll_cons_mk (Below.trod laidOut (by kernel_rfl) (of_decide_eq_true (by kernel_rfl)) k2 bel lt2) trodAll_mk0))), rfl, bel.frame _, fun h => by cases h⟩

theorem over : Rows.ratioOrderRow.holds Tryz.pinned (OpenSpec.ofChange Rows.ratioOrderSpec) :=
  OpenClaim.holds_of_wide 7 Tryz.f7 rfl rfl rfl rfl rfl rfl rfl ⟨rfl, rfl, rfl, rfl, rfl⟩ rfl rfl rfl rfl rfl (by kernel_rfl) Tryz.func7 (by kernel_rfl)
    (of_decide_eq_true (by kernel_rfl)) (by unfold Func.isWrapper; first | (rw [if_pos (by decide +kernel)]; kernel_rfl) | (rw [if_neg (by decide +kernel)]; exact ⟨rfl, rfl⟩))
    (fun os started H enc _ => lifted os started H enc)

/-- THE STATEMENT: the tied card -/
theorem proved : Rows.RatioOrderCardSaid :=
  Claim7.holds_tied_plain_at .later [] _ _ _ _ over (fun _ h => by cases h) (by kernel_rfl) (fun _ h => by cases h) ratioOrder_row_tie rfl ⟨rfl, rfl⟩ (by kernel_rfl) rfl
    (fun f fn hf hfn => by
      obtain rfl : f = 7 := Option.some.inj ((show Tryz.prog.funcNamed "touchstone/touchstonelaw04.RatioOrder" = some 7 by kernel_rfl).symm.trans hf) |>.symm
      obtain rfl : fn = Tryz.f7 := (Option.some.inj (Tryz.func7.symm.trans hfn)).symm
      exact ⟨by kernel_rfl, fun j t ht => by
        rw [Tryz.params7] at ht
        have hm : t ∈ [26, 26, 26] := by simpa using Array.mem_of_getElem? ht
        have hall : ([26, 26, 26].all fun u => !Tryz.prog.wantsStandIn u) = true := by kernel_rfl
        exact (show Tryz.prog.wantsStandIn t = false by simpa using List.all_eq_true.1 hall t hm)⟩)
    (by kernel_rfl)
#print axioms proved
end Go.Proofs.YtbbemgeinlehmaaGreatDoor.ratioOrder
