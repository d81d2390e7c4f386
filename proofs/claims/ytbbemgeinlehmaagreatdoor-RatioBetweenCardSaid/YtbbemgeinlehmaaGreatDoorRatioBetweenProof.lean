/-
  For every fraction a of layer 4: the law RatioBetween returns true (where it may be, and has at most 8 digits: rounded down it is not more, and less than 1 from it; rounded up it is the opposite of the opposite rounded down) and leaves it as it was. No condition.
-/
import Derived.Test.YtbbemgeinlehmaaGreatDoorRows
import Derived.Test.YtbbemgeinlehmaaGreatDoorCards
import Derived.Test.YtbbemgeinlehmaaGreatDoorTie
import Derived.LaidMore
import Derived.Lay
import Derived.SevenTiedAt
import Derived.WalkKit
import Derived.ProofKit
import Derived.OpenShut
import Derived.ShutString
import Derived.ChangeOld
import Derived.Below
import Derived.Lib.SmallJoins
import Derived.Test.YtbbemgeinlehmaaGreatDoorOpn
import Derived.Test.YtbbemgeinlehmaaGreatDoorL4a
import Derived.Test.YtbbemgeinlehmaaGreatDoorAl4
import Derived.Test.YtbbemgeinlehmaaGreatDoorSr4ad
import Derived.Test.YtbbemgeinlehmaaGreatDoorSr4ne
import Derived.Test.YtbbemgeinlehmaaGreatDoorSr4cm
import Derived.Test.YtbbemgeinlehmaaGreatDoorTa
import Derived.Test.YtbbemgeinlehmaaGreatDoorSr4ce
import Derived.Test.YtbbemgeinlehmaaGreatDoorSb
import Derived.Test.YtbbemgeinlehmaaGreatDoorSd
import Derived.Test.YtbbemgeinlehmaaGreatDoorR4s
import Derived.Test.YtbbemgeinlehmaaGreatDoorQa
import Derived.Test.YtbbemgeinlehmaaGreatDoorFw
import Derived.Test.YtbbemgeinlehmaaGreatDoorRg
import Derived.Deep.RegionHeld3
import Derived.Deep.DeepCutAuto
namespace Go.Proofs.YtbbemgeinlehmaaGreatDoor.ratioBetween
open Go.Joins Go.Proofs.YtbbemgeinlehmaaGreatDoor
open Go.ChangeShapes Go.WideShapes Go.ChangeAt Go.RowKit
open Go.ChangeMaps (open_string shut_string)
open Go.Proofs.YtbbemgeinlehmaaGreatDoor.Dig Go.Proofs.YtbbemgeinlehmaaGreatDoor.R4 Go.Proofs.YtbbemgeinlehmaaGreatDoor.Fr Go.Proofs.YtbbemgeinlehmaaGreatDoor.Ref04
open Go.Proofs.YtbbemgeinlehmaaGreatDoor.Ref03 (sv ngB mag)
set_option linter.unusedVariables false
set_option linter.unusedSimpArgs false

theorem cells26 : Tryz.prog.cellsOf 26 = 4 := by kernel_rfl
theorem cells24 : Tryz.prog.cellsOf 24 = 2 := by kernel_rfl
theorem own : ownKnob Tryz.prog.godebug = none := by kernel_rfl
theorem laidOut : laidOutB Tryz.prog = true := by kernel_rfl

/-- WHAT THE WALK IS TOLD OF A SLICE OF INTEGERS THAT CAME IN: it is nil; or it leads to a row of 'cap' cells, the numbers 'zs' (the first 'len' are its elements, the rest its spare room), each fitting its kind. -/
def IsRow (k : IntKind) (w : World) (a : Option Addr) (len cap : Nat) (zs : List Int) : Prop :=
  (a = none ∧ len = 0 ∧ cap = 0 ∧ zs = []) ∨
  ∃ x, a = some x ∧ len ≤ cap ∧ cap ≤ maxLen ∧ zs.length = cap ∧ (∀ i, i < zs.length → w.cell? (x.add i) = some (.int k (zs.getD i 0))) ∧ ∀ n ∈ zs, (Lit.int k n).wf = true

theorem cmp_val {P : Program} {f : FuncId} {args : Array Value} {w : World} {r : Int × Int} {c e : Int} (ns : Calls P f args w fun x w' => x = .returned (.tuple #[.int .i64 r.1, .int .i64 r.2]) ∧ Since w w') (h : r = (c, e)) :
    Calls P f args w fun x w' => x = .returned (.tuple #[.int .i64 c, .int .i64 e]) ∧ Since w w' := by
  subst h; exact ns
theorem same_int (A0 A1 : Option Addr) (c0 c1 : Nat) (n : Bool) (xs : List Nat) (w : World) (hx : Row w (.slice A0 xs.length c0) xs) (hy : Row w (.slice A1 xs.length c1) xs) (lx : xs.length ≤ 10000) :
    Calls Tryz.prog 30 #[sv n (.slice A0 xs.length c0), sv n (.slice A1 xs.length c1)] w fun e w' => e = .returned (.bool true) ∧ Since w w' := by
  have k := Ref03.same_any (.slice A0 xs.length c0) (.slice A1 xs.length c1) n n xs xs w hx hy lx lx
  rwa [show (n == n && sameB xs xs) = true by simp [sameB]] at k
theorem of_at {n : Int} {w : World} {x : Ending} {w' : World} (h : RetFv (ofR n) w x w') :
    ∃ A c B d, x = .returned (.agg #[.bool (ngB n), .slice A (mag n).length c, .bool (ngB 1), .slice B (mag 1).length d]) ∧ Row w' (.slice A (mag n).length c) (mag n) ∧ Row w' (.slice B (mag 1).length d) (mag 1) ∧ Since w w' := h
theorem sneg_at (A0 : Option Addr) (c0 : Nat) (na : Bool) (xs : List Nat) (w : World) (hx : Row w (.slice A0 xs.length c0) xs) (lx : xs.length ≤ 1000) {n1 : Bool} {s1 : List Nat} (h : Ref03.negZ na xs = ((n1, s1), 0)) :
    Calls Tryz.prog 36 #[sv na (.slice A0 xs.length c0)] w fun e w' => ∃ A c, e = .returned (.tuple #[sv n1 (.slice A s1.length c), .int .i64 0]) ∧ Row w' (.slice A s1.length c) s1 ∧ Since w w' := by
  have k := Sg03.neg_any A0 c0 na xs w hx lx
  rwa [h] at k

set_option maxRecDepth 100000 in
set_option maxHeartbeats 4000000 in
theorem walk (b0 : Bool) (a0 : Option Addr) (len0 cap0 : Nat) (sg0 : Bool) (ad0 : Option Addr) (ln0 cp0 : Nat) (z0 y0 : List Int) (w : World) (w0 : IsRow .u32 w a0 len0 cap0 z0) (u0 : IsRow .u32 w ad0 ln0 cp0 y0) :
    Calls Tryz.prog 8 #[.agg #[.bool b0, .slice a0 len0 cap0, .bool sg0, .slice ad0 ln0 cp0]] w fun e w' => e = .returned (.bool true) ∧ Since w w' := by
  obtain ⟨p0, hl0, hr0⟩ := row_in w0
  have P0 := Lib.hid hr0
  obtain ⟨q0, hm0, hs0⟩ := row_in u0
  have Q0 := Lib.hid hs0
  clear w0 u0 hr0 hs0
  subst hl0 hm0
  obtain ⟨W0, hW0⟩ : ∃ W0, W0 = w.alloc (.cells #[.bool b0, .slice a0 p0.length cap0, .bool sg0, .slice ad0 q0.length cp0] 26) := ⟨_, rfl⟩
  have HW := Lib.hid hW0
  have hS0 : Since w W0 := by rw [hW0]; exact (Since.refl w).alloc _
  have hbx : Hid (∀ W : World, Since W0 W → Bx W (w.heap.size) #[.bool b0, .slice a0 p0.length cap0, .bool sg0, .slice ad0 q0.length cp0] 26) := fun W h => Bx.new (hW0 ▸ h) (by simp)
  clear hW0
  have hK := Since.refl W0
  by_cases g : (Law04.few1 ⟨b0, a0, cap0, p0, sg0, ad0, cp0, q0⟩) = true
  rotate_left
  · have HF := Lib.hid (show (Law04.few1 ⟨b0, a0, cap0, p0, sg0, ad0, cp0, q0⟩) = false by simpa using g)
    clear g
    go_enter Tryz.func8, Tryz.ntmps8
    go_wp2_with fail
    rw [← HW.out]
    obtain B0 := hbx.out _ hK; obtain ⟨k0a, k0b, k0c, k0d⟩ := B0.four
    go_wp2_with (first
      | (go_at_call 9; (with_reducible refine (Alive04.alive _).mono ?_); rintro e v0 ⟨rfl, h⟩; have hK := hK.trans h; obtain B0 := hbx.out _ hK; obtain ⟨k0a, k0b, k0c, k0d⟩ := B0.four)
      | (go_at_call 10; (with_reducible refine (Law04.few_one _ _ ⟨b0, a0, cap0, p0, sg0, ad0, cp0, q0⟩).mono ?_); rw [HF.out]; rintro e vf ⟨rfl, h⟩; have hK := hK.trans h; obtain B0 := hbx.out _ hK; obtain ⟨k0a, k0b, k0c, k0d⟩ := B0.four))
    go_ret
    exact ⟨rfl, hS0.trans hK⟩
  have HF := Lib.hid g
  have FW := Lib.hid (show p0.length ≤ 8 ∧ q0.length ≤ 8 by simpa [Law04.few1, and_assoc] using g)
  clear g
  by_cases g0 : rrB ((b0, p0), (sg0, q0)) = true
  rotate_left
  · have G0 := Lib.hid (show rrB ((b0, p0), (sg0, q0)) = false by simpa using g0)
    clear g0
    go_enter Tryz.func8, Tryz.ntmps8
    go_wp2_with fail
    rw [← HW.out]
    obtain B0 := hbx.out _ hK; obtain ⟨k0a, k0b, k0c, k0d⟩ := B0.four
    go_wp2_with (first
      | (go_at_call 9; (with_reducible refine (Alive04.alive _).mono ?_); rintro e v0 ⟨rfl, h⟩; have hK := hK.trans h; obtain B0 := hbx.out _ hK; obtain ⟨k0a, k0b, k0c, k0d⟩ := B0.four)
      | (go_at_call 10; (with_reducible refine (Law04.few_one _ _ ⟨b0, a0, cap0, p0, sg0, ad0, cp0, q0⟩).mono ?_); rw [HF.out]; rintro e vf ⟨rfl, h⟩; have hK := hK.trans h; obtain B0 := hbx.out _ hK; obtain ⟨k0a, k0b, k0c, k0d⟩ := B0.four)
      | (go_at_call 31; (with_reducible refine ((Ref04.right_any a0 ad0 cap0 cp0 b0 sg0 p0 q0 _ (P0.out.since (hS0.trans hK)) (Q0.out.since (hS0.trans hK)) (by have := FW.out; omega) (by have := FW.out; omega))).mono ?_); rw [G0.out]; rintro e w1 ⟨rfl, h⟩; have hK := hK.trans h; obtain B0 := hbx.out _ hK; obtain ⟨k0a, k0b, k0c, k0d⟩ := B0.four))
    go_ret
    exact ⟨rfl, hS0.trans hK⟩
  have G0 := Lib.hid g0
  clear g0
  obtain ⟨⟨nq, sq⟩, ⟨⟨n1, s1⟩, n2, s2⟩, ⟨nm, sm⟩, ⟨np, sp⟩, ⟨⟨n3, s3⟩, n4, s4⟩, ⟨⟨n5, s5⟩, n6, s6⟩, c, d, E1, E2, E3, E4, E5, E6, E7, E8, E9, hc, hd, ⟨g1, g2, g3⟩, hl⟩ := between_frac P0.out.dig Q0.out.dig G0.out (by have := FW.out; dsimp only; omega) (by have := FW.out; dsimp only; omega)
  have E1 := Lib.hid E1
  have E2 := Lib.hid E2
  have E3 := Lib.hid E3
  have E4 := Lib.hid E4
  have E5 := Lib.hid E5
  have E6 := Lib.hid (show makeR (nq, sq) (ngB 1, mag 1) = _ from E6)
  have E7 := Lib.hid (show addR ((n3, s3), (n4, s4)) ((ngB 1, mag 1), (ngB 1, mag 1)) = _ from E7)
  have E8 := Lib.hid E8
  have E9 := Lib.hid E9
  have hc1 : decide (c ≤ 0) = true := decide_eq_true hc
  have hd1 : decide (d < 0) = true := decide_eq_true hd
  have hd2 : ¬ (0 < c) := by omega
  have LQ := Lib.hid (show sq.length ≤ 64 ∧ sm.length ≤ 64 ∧ sp.length ≤ 64 from hl)
  have LN1 := Lib.hid (show s1.length ≤ 64 ∧ s2.length ≤ 64 from fz_len (negR_len P0.out.dig Q0.out.dig) E3.out)
  have LL1 := Lib.hid (show s3.length ≤ 64 ∧ s4.length ≤ 64 from fz_len (makeR_len _ _) E6.out)
  have LT := Lib.hid (show s5.length ≤ 64 ∧ s6.length ≤ 64 from fz_len (addR_len _ _) E7.out)
  clear hl g1 g2 g3 hc hd
  go_enter Tryz.func8, Tryz.ntmps8
  go_wp2_with fail
  rw [← HW.out]
  obtain B0 := hbx.out _ hK; obtain ⟨k0a, k0b, k0c, k0d⟩ := B0.four
  have hS := Since.refl W0
  go_upto_region 6 with (first
    | (go_at_call 9; (with_reducible refine (Alive04.alive _).mono ?_); rintro e v0 ⟨rfl, h⟩; have hK := hK.trans h; obtain B0 := hbx.out _ hK; obtain ⟨k0a, k0b, k0c, k0d⟩ := B0.four)
    | (go_at_call 10; (with_reducible refine (Law04.few_one _ _ ⟨b0, a0, cap0, p0, sg0, ad0, cp0, q0⟩).mono ?_); rw [HF.out]; rintro e vf ⟨rfl, h⟩; have hK := hK.trans h; obtain B0 := hbx.out _ hK; obtain ⟨k0a, k0b, k0c, k0d⟩ := B0.four)
    | (go_at_call 31; (with_reducible refine ((Ref04.right_any a0 ad0 cap0 cp0 b0 sg0 p0 q0 _ (P0.out.since (hS0.trans (hS.trans hK))) (Q0.out.since (hS0.trans (hS.trans hK))) (by have := FW.out; omega) (by have := FW.out; omega))).mono ?_); rw [G0.out]; rintro e w1 ⟨rfl, h⟩; have hK := hK.trans h; have B0 := hbx.out _ (hS.trans hK); obtain ⟨k0a, k0b, k0c, k0d⟩ := B0.four)
    | (go_at_call 12; (with_reducible refine (Law04.theirs_any a0 ad0 p0.length cap0 q0.length cp0 b0 sg0 _).mono ?_); rintro e t6 ⟨rfl, h⟩; have hK := hK.trans h)
    | (go_at_call 24; (with_reducible refine ((Sr04.floor_any a0 ad0 cap0 cp0 b0 sg0 p0 q0 _ (P0.out.since (hS0.trans (hS.trans hK))) (Q0.out.since (hS0.trans (hS.trans hK))) (by have := FW.out; omega) (by have := FW.out; omega)).mono fun _ _ h => RetN.at E1.out h).mono ?_); rintro e v5 ⟨X1, x1, rfl, r1, h⟩; have hK := hK.trans h))
  obtain ⟨W5, hW5⟩ : ∃ W5, W5 = v5.alloc (.cells #[.bool nq, .slice X1 sq.length x1] 29) := ⟨_, rfl⟩
  rw [← hW5]
  have hx : Since v5 W5 := by rw [hW5]; exact since_alloc _ _
  have hg := hK.trans hx
  have qbW5 : w.heap.size < v5.heap.size := (hbx.out _ (hS.trans hK)).lt
  have Vq : Hid (∀ W', Since W5 W' → Bx W' (v5.heap.size) #[.bool nq, .slice X1 sq.length x1] 29) := fun W' h => Bx.new (hW5 ▸ h) (by simp)
  have r1 := r1.since hx
  have hS := hS.trans hg
  clear hW5 hx hg hK
  generalize v5.heap.size = bkW5 at *
  have hK := Since.refl W5
  have B0 := hbx.out _ (hS.trans hK)
  obtain ⟨k0a, k0b, k0c, k0d⟩ := B0.four
  go_upto_region 7 with (first
    | (go_at_call 12; (with_reducible refine (Law04.theirs_any a0 ad0 p0.length cap0 q0.length cp0 b0 sg0 _).mono ?_); rintro e t6 ⟨rfl, h⟩; have hK := hK.trans h)
    | (go_at_call 26; (with_reducible refine ((Sr04.ceil_any a0 ad0 cap0 cp0 b0 sg0 p0 q0 _ (P0.out.since (hS0.trans (hS.trans hK))) (Q0.out.since (hS0.trans (hS.trans hK))) (by have := FW.out; omega) (by have := FW.out; omega)).mono fun _ _ h => RetN.at E2.out h).mono ?_); rintro e v6 ⟨X2, x2, rfl, r2, h⟩; have hK := hK.trans h))
  obtain ⟨W6, hW6⟩ : ∃ W6, W6 = v6.alloc (.cells #[.bool np, .slice X2 sp.length x2] 29) := ⟨_, rfl⟩
  rw [← hW6]
  have hx : Since v6 W6 := by rw [hW6]; exact since_alloc _ _
  have hg := hK.trans hx
  have qbW6 : w.heap.size < v6.heap.size := (hbx.out _ (hS.trans hK)).lt
  have qqW6 : bkW5 < v6.heap.size := (Vq.out _ hK).lt
  have Vp : Hid (∀ W', Since W6 W' → Bx W' (v6.heap.size) #[.bool np, .slice X2 sp.length x2] 29) := fun W' h => Bx.new (hW6 ▸ h) (by simp)
  have r1 := r1.since hg
  have r2 := r2.since hx
  have Vq : Hid (∀ W', Since W6 W' → _) := fun W' h => Vq.out W' (hg.trans h)
  have hS := hS.trans hg
  clear hW6 hx hg hK
  generalize v6.heap.size = bkW6 at *
  have hK := Since.refl W6
  have B0 := hbx.out _ (hS.trans hK)
  obtain ⟨k0a, k0b, k0c, k0d⟩ := B0.four
  go_upto_region 8 with (first
    | (go_at_call 12; (with_reducible refine (Law04.theirs_any a0 ad0 p0.length cap0 q0.length cp0 b0 sg0 _).mono ?_); rintro e t6 ⟨rfl, h⟩; have hK := hK.trans h)
    | (go_at_call 14; (with_reducible refine ((Sr04.neg_any a0 ad0 cap0 cp0 b0 sg0 p0 q0 _ (P0.out.since (hS0.trans (hS.trans hK))) (Q0.out.since (hS0.trans (hS.trans hK))) (by have := FW.out; omega) (by have := FW.out; omega)).mono fun _ _ h => RetF.at E3.out h).mono ?_); rintro e v7 ⟨X3, x3, Y3, y3, rfl, r3, r4, h⟩; have hK := hK.trans h))
  obtain ⟨W7, hW7⟩ : ∃ W7, W7 = v7.alloc (.cells #[.bool n1, .slice X3 s1.length x3, .bool n2, .slice Y3 s2.length y3] 31) := ⟨_, rfl⟩
  rw [← hW7]
  have hx : Since v7 W7 := by rw [hW7]; exact since_alloc _ _
  have hg := hK.trans hx
  have qbW7 : w.heap.size < v7.heap.size := (hbx.out _ (hS.trans hK)).lt
  have qqW7 : bkW5 < v7.heap.size := (Vq.out _ hK).lt
  have qpW7 : bkW6 < v7.heap.size := (Vp.out _ hK).lt
  have Vn : Hid (∀ W', Since W7 W' → Bx W' (v7.heap.size) #[.bool n1, .slice X3 s1.length x3, .bool n2, .slice Y3 s2.length y3] 31) := fun W' h => Bx.new (hW7 ▸ h) (by simp)
  have r1 := r1.since hg
  have r2 := r2.since hg
  have r3 := r3.since hx
  have r4 := r4.since hx
  have Vq : Hid (∀ W', Since W7 W' → _) := fun W' h => Vq.out W' (hg.trans h)
  have Vp : Hid (∀ W', Since W7 W' → _) := fun W' h => Vp.out W' (hg.trans h)
  have hS := hS.trans hg
  clear hW7 hx hg hK
  generalize v7.heap.size = bkW7 at *
  have hK := Since.refl W7
  obtain ⟨vna, vnb, vnc, vnd⟩ := (Vn.out _ hK).four
  go_upto_region 9 with (first
    | (go_at_call 24; (with_reducible refine ((Sr04.floor_any X3 Y3 x3 y3 n1 n2 s1 s2 _ (r3.since hK) (r4.since hK) (by have := LN1.out; omega) (by have := LN1.out; omega)).mono fun _ _ h => RetN.at E4.out h).mono ?_); rintro e v8 ⟨X4, x4, rfl, r5, h⟩; have hK := hK.trans h))
  obtain ⟨W8, hW8⟩ : ∃ W8, W8 = v8.alloc (.cells #[.bool nm, .slice X4 sm.length x4] 29) := ⟨_, rfl⟩
  rw [← hW8]
  have hx : Since v8 W8 := by rw [hW8]; exact since_alloc _ _
  have hg := hK.trans hx
  have qbW8 : w.heap.size < v8.heap.size := (hbx.out _ (hS.trans hK)).lt
  have qqW8 : bkW5 < v8.heap.size := (Vq.out _ hK).lt
  have qpW8 : bkW6 < v8.heap.size := (Vp.out _ hK).lt
  have qnW8 : bkW7 < v8.heap.size := (Vn.out _ hK).lt
  have Vm : Hid (∀ W', Since W8 W' → Bx W' (v8.heap.size) #[.bool nm, .slice X4 sm.length x4] 29) := fun W' h => Bx.new (hW8 ▸ h) (by simp)
  have r1 := r1.since hg
  have r2 := r2.since hg
  have r3 := r3.since hg
  have r4 := r4.since hg
  have r5 := r5.since hx
  have Vq : Hid (∀ W', Since W8 W' → _) := fun W' h => Vq.out W' (hg.trans h)
  have Vp : Hid (∀ W', Since W8 W' → _) := fun W' h => Vp.out W' (hg.trans h)
  have Vn : Hid (∀ W', Since W8 W' → _) := fun W' h => Vn.out W' (hg.trans h)
  have hS := hS.trans hg
  clear hW8 hx hg hK
  generalize v8.heap.size = bkW8 at *
  have hK := Since.refl W8
  obtain ⟨vma, vmb⟩ := (Vm.out _ hK).two
  go_upto_region 10 with (first
    | (go_at_call 36; (with_reducible refine (sneg_at X4 x4 nm sm _ (r5.since hK) (by have := LQ.out; omega) E5.out).mono ?_); rintro e v9 ⟨X5, x5, rfl, r6, h⟩; have hK := hK.trans h))
  obtain ⟨W9, hW9⟩ : ∃ W9, W9 = v9.alloc (.cells #[.bool np, .slice X5 sp.length x5] 29) := ⟨_, rfl⟩
  rw [← hW9]
  have hx : Since v9 W9 := by rw [hW9]; exact since_alloc _ _
  have hg := hK.trans hx
  have qbW9 : w.heap.size < v9.heap.size := (hbx.out _ (hS.trans hK)).lt
  have qqW9 : bkW5 < v9.heap.size := (Vq.out _ hK).lt
  have qpW9 : bkW6 < v9.heap.size := (Vp.out _ hK).lt
  have qnW9 : bkW7 < v9.heap.size := (Vn.out _ hK).lt
  have qmW9 : bkW8 < v9.heap.size := (Vm.out _ hK).lt
  have Vo : Hid (∀ W', Since W9 W' → Bx W' (v9.heap.size) #[.bool np, .slice X5 sp.length x5] 29) := fun W' h => Bx.new (hW9 ▸ h) (by simp)
  have r1 := r1.since hg
  have r2 := r2.since hg
  have r3 := r3.since hg
  have r4 := r4.since hg
  have r5 := r5.since hg
  have r6 := r6.since hx
  have Vq : Hid (∀ W', Since W9 W' → _) := fun W' h => Vq.out W' (hg.trans h)
  have Vp : Hid (∀ W', Since W9 W' → _) := fun W' h => Vp.out W' (hg.trans h)
  have Vn : Hid (∀ W', Since W9 W' → _) := fun W' h => Vn.out W' (hg.trans h)
  have Vm : Hid (∀ W', Since W9 W' → _) := fun W' h => Vm.out W' (hg.trans h)
  have hS := hS.trans hg
  clear hW9 hx hg hK
  generalize v9.heap.size = bkW9 at *
  have hK := Since.refl W9
  obtain ⟨vpa, vpb⟩ := (Vp.out _ hK).two
  obtain ⟨voa, vob⟩ := (Vo.out _ hK).two
  go_upto_region 12 with (first
    | (go_at_call 30; (with_reducible refine (same_int X5 X2 x5 x2 np sp _ (r6.since hK) (r2.since hK) (by have := LQ.out; omega)).mono ?_); rintro e v10 ⟨rfl, h⟩; have hK := hK.trans h))
  have r1 := r1.since hK
  have Vq : Hid (∀ W', Since v10 W' → _) := fun W' h => Vq.out W' (hK.trans h)
  have hZ := hS.trans hK
  clear hK hS
  have hall : Hid (∀ W : World, Since v10 W → W.cell? ⟨bkW5, 0, none⟩ = some (.bool nq) ∧ W.cell? ⟨bkW5, 1, none⟩ = some (.slice X1 sq.length x1)) := fun W h => (Vq.out W h).two
  go_cut [13, 14] (fun pP pE W => ∃ (c0 : Nat) (X6 : Option Addr) (x6 : Nat) (Y6 : Option Addr) (y6 : Nat), pP = .pointer (some ⟨c0, 0, none⟩) ∧ pE = .int .i64 0 ∧ Since v10 W ∧ Bx W c0 #[.bool n3, .slice X6 s3.length x6, .bool n4, .slice Y6 s4.length y6] 31 ∧ Row W (.slice X6 s3.length x6) s3 ∧ Row W (.slice Y6 s4.length y6) s4)
  case first =>
    have hr0 : Since v10 v10.drew := Since.drew (Since.refl v10)
    have r1 := r1.since hr0
    refine wp_region_noPanic ?_
    refine Reg.wp_region_G (S := fun W => W.cell? ⟨bkW5, 0, none⟩ = some (.bool nq) ∧ W.cell? ⟨bkW5, 1, none⟩ = some (.slice X1 sq.length x1)) (fun j => [2, 3, 4, 5, 7, 8].contains j) (by kernel_rfl) ?_ ?_
    · exact hall.out _ hr0
    refine' Reg.wpG_take (i := 0) (oi := { dst := some 93, op := Op.load 29 (Operand.tmp 3), type := 29, pos := "law.go:161", after := #[], guard := none }) (v := _) [2, 3, 4, 5, 7, 8] [2, 3, 4, 5, 7, 8] rfl rfl (by kernel_rfl) (by kernel_rfl) (by kernel_rfl) (by kernel_rfl) (by kernel_rfl) (by kernel_rfl) (by kernel_rfl) (fun _ _ _ h => h) (Or.inl ⟨by rfl, Or.inl ?hy1⟩) ?rest1
    case hy1 => (intro w' kk ss; (try dsimp only at ss); go_simp; first | done | with_reducible rfl)
    try simp only [Act.put, List.setIfInBounds_toArray, List.set_cons_zero, List.set_cons_succ]
    refine Reg.wpG_ready (rs := [1, 6]) (by kernel_rfl) (by simp) (fun wq1 k1' sq1 => ?_)
    have hr0 := hr0.trans k1'
    have hb1 : v10.heap.size ≤ wq1.heap.size := hr0.size
    have r1 := r1.since k1'
    refine Reg.AllG.first (o := { dst := some 94, op := Op.call { callee := Callee.value (Operand.func 38), args := #[Operand.const (Value.int IntKind.i64 1)], argTypes := #[2] }, type := 29, pos := "law.go:161", after := #[], guard := none }) rfl (by rfl) (fun K hK => ?_) (Reg.AllG.first (o := { dst := some 13, op := Op.alloc 31, type := 0, pos := "law.go:161", after := #[], guard := none }) rfl (by rfl) (fun K hK => ?_) Reg.AllG.nil)
    · go_simp
      (with_reducible refine (Sg03.of_any 1 wq1 (by omega)).mono ?_)
      rintro e y1 ⟨XO, xo, rfl, ro, hx⟩
      refine hK.out _ _ ?_ hx ?_
      · exact hall.out _ (hr0.trans hx)
      clear hK K
      have hr0 := hr0.trans hx
      have r1 := r1.since hx
      try simp only [Act.put, List.setIfInBounds_toArray, List.set_cons_zero, List.set_cons_succ]
      refine Reg.wpG_ready (rs := [2, 6]) (by kernel_rfl) (by simp) (fun wq2 k2' sq2 => ?_)
      have hr0 := hr0.trans k2'
      have hb2 : v10.heap.size ≤ wq2.heap.size := hr0.size
      have r1 := r1.since k2'
      have ro := ro.since k2'
      refine Reg.AllG.last (o := { dst := some 95, op := Op.call { callee := Callee.value (Operand.func 37), args := #[Operand.tmp 93, Operand.tmp 94], argTypes := #[29, 29] }, type := 33, pos := "law.go:161", after := #[{ on := 0, ground := Ground.data }, { on := 1, ground := Ground.data }, { on := 1, ground := Ground.chain }], guard := none }) rfl (by rfl) (fun K hK => ?_) (Reg.AllG.first (o := { dst := some 13, op := Op.alloc 31, type := 0, pos := "law.go:161", after := #[], guard := none }) rfl (by rfl) (fun K hK => ?_) Reg.AllG.nil)
      · go_simp
        (with_reducible refine ((Sr04.make_any X1 XO x1 xo nq (ngB 1) sq (mag 1) wq2 r1 ro (by have := LQ.out; omega) (by decide)).mono fun _ _ h => RetF.at E6.out h).mono ?_)
        rintro e y2 ⟨X6, x6, Y6, y6, rfl, r7, r8, hx⟩
        have hr0 := hr0.trans hx
        have r1 := r1.since hx
        have ro := ro.since hx
        have hb : v10.heap.size ≤ y2.heap.size := hr0.size
        refine hK.out _ _ ?_ (fun hHeld => ?_)
        · exact hall.out _ hr0
        clear hK K
        try simp only [Act.put, List.setIfInBounds_toArray, List.set_cons_zero, List.set_cons_succ]
        refine' wpAnyH_take (i := 3) (oi := { dst := some 92, op := Op.move (Operand.tmp 95), type := 33, pos := "law.go:161", after := #[{ on := 2, ground := Ground.data }], guard := none }) (v := _) rfl (by kernel_rfl) (by kernel_rfl) (by kernel_rfl) (fun _ _ _ h => h) (Or.inl ⟨by rfl, ?hy2⟩) (by assumption) ?rest2
        case hy2 => (intro w' ss; (try dsimp only at ss); go_simp; first | done | with_reducible rfl)
        try simp only [Act.put, List.setIfInBounds_toArray, List.set_cons_zero, List.set_cons_succ]
        refine' wpAnyH_take (i := 4) (oi := { dst := some 96, op := Op.extract (Operand.tmp 92) 0, type := 31, pos := "law.go:161", after := #[{ on := 3, ground := Ground.data }], guard := none }) (v := _) rfl (by kernel_rfl) (by kernel_rfl) (by kernel_rfl) (fun _ _ _ h => h) (Or.inl ⟨by rfl, ?hy3⟩) (by assumption) ?rest3
        case hy3 => (intro w' ss; (try dsimp only at ss); go_simp; first | done | with_reducible rfl)
        try simp only [Act.put, List.setIfInBounds_toArray, List.set_cons_zero, List.set_cons_succ]
        refine' wpAnyH_take (i := 5) (oi := { dst := some 97, op := Op.extract (Operand.tmp 92) 1, type := 32, pos := "law.go:161", after := #[{ on := 3, ground := Ground.data }, { on := 7, ground := Ground.gcOnly Departure.lateStores }], guard := none }) (v := _) rfl (by kernel_rfl) (by kernel_rfl) (by kernel_rfl) (fun _ _ _ h => h) (Or.inl ⟨by rfl, ?hy4⟩) (by assumption) ?rest4
        case hy4 => (intro w' ss; (try dsimp only at ss); go_simp; first | done | with_reducible rfl)
        try simp only [Act.put, List.setIfInBounds_toArray, List.set_cons_zero, List.set_cons_succ]
        refine wpAnyH_ready (rs := [6]) (by kernel_rfl) (by simp) ?_
        refine AllReadyH.cons (o := { dst := some 13, op := Op.alloc 31, type := 0, pos := "law.go:161", after := #[], guard := none }) rfl (fun K hK => ?_) AllReadyH.nil
        · go_simp
          refine hK.out _ _ ?_ (fun hHeld => ?_)
          · exact hall.out _ (hr0.trans (since_alloc _ _))
          clear hK K
          try simp only [Act.put, List.setIfInBounds_toArray, List.set_cons_zero, List.set_cons_succ]
          have gb := Bx.fresh y2 #[.bool false, .slice none 0 0, .bool false, .slice none 0 0] 31
          refine wpAnyH_ready (rs := [7]) (by kernel_rfl) (by simp) ?_
          refine AllReadyH.cons (o := { dst := none, op := Op.store 31 (Operand.tmp 13) (Operand.tmp 96), type := 0, pos := "law.go:161", after := #[{ on := 6, ground := Ground.data }, { on := 4, ground := Ground.data }, { on := 2, ground := Ground.chain }, { on := 0, ground := Ground.phase }, { on := 1, ground := Ground.phase }, { on := 2, ground := Ground.phase }, { on := 3, ground := Ground.phase }, { on := 4, ground := Ground.phase }, { on := 5, ground := Ground.textOnly Departure.lateStores }, { on := 6, ground := Ground.phase }], guard := none }) rfl (fun K hK => ?_) AllReadyH.nil
          · obtain ⟨gza, gzb, gzc, gzd⟩ := gb.four
            obtain ⟨fza, fzb, fzc, fzd⟩ := gb.four'
            go_simp
            refine hK.out _ _ ?_ (fun hHeld => ?_)
            · exact hall.out _ (hr0.trans (since_alloc _ _))
            clear hK K
            try simp only [Act.put, List.setIfInBounds_toArray, List.set_cons_zero, List.set_cons_succ]
            refine' wpAnyH_take (i := 8) (oi := { dst := some 14, op := Op.assign (Operand.tmp 97), type := 32, pos := "law.go:161", after := #[{ on := 5, ground := Ground.data }, { on := 7, ground := Ground.chain }, { on := 0, ground := Ground.phase }, { on := 1, ground := Ground.phase }, { on := 2, ground := Ground.phase }, { on := 3, ground := Ground.phase }, { on := 4, ground := Ground.phase }, { on := 5, ground := Ground.phase }, { on := 6, ground := Ground.phase }, { on := 7, ground := Ground.phase }], guard := none }) (v := _) rfl (by kernel_rfl) (by kernel_rfl) (by kernel_rfl) (fun _ _ _ h => h) (Or.inl ⟨by rfl, ?hy5⟩) (by assumption) ?rest5
            case hy5 => (intro w' ss; (try dsimp only at ss); go_simp; first | done | with_reducible rfl)
            try simp only [Act.put, List.setIfInBounds_toArray, List.set_cons_zero, List.set_cons_succ]
            refine wpAnyH_done (by kernel_rfl) ?_ _
            refine NoPanic.normal ?_
            go_wp2_with fail
            go_meet
            exact ⟨_, X6, x6, Y6, y6, rfl, rfl, hr0.trans (since_alloc _ _), Bx.fresh _ _ _, r7.since (since_alloc _ _), r8.since (since_alloc _ _)⟩
      · go_simp
        refine hK.out _ _ ?_ (since_alloc _ _) ?_
        · exact hall.out _ (hr0.trans (since_alloc _ _))
        clear hK K
        try simp only [Act.put, List.setIfInBounds_toArray, List.set_cons_zero, List.set_cons_succ]
        have gb := Bx.fresh wq2 #[.bool false, .slice none 0 0, .bool false, .slice none 0 0] 31
        have hbq := hb2
        have r1 := r1.since (since_alloc wq2 (.cells #[.bool false, .slice none 0 0, .bool false, .slice none 0 0] 31))
        have ro := ro.since (since_alloc wq2 (.cells #[.bool false, .slice none 0 0, .bool false, .slice none 0 0] 31))
        have hr0 := hr0.trans (since_alloc wq2 (.cells #[.bool false, .slice none 0 0, .bool false, .slice none 0 0] 31))
        refine Reg.wpG_ready (rs := [2]) (by kernel_rfl) (by simp) (fun wq3 k3' sq3 => ?_)
        have hr0 := hr0.trans k3'
        have hb3 : v10.heap.size ≤ wq3.heap.size := hr0.size
        have r1 := r1.since k3'
        have ro := ro.since k3'
        have gb := gb.since k3'
        refine Reg.AllG.last (o := { dst := some 95, op := Op.call { callee := Callee.value (Operand.func 37), args := #[Operand.tmp 93, Operand.tmp 94], argTypes := #[29, 29] }, type := 33, pos := "law.go:161", after := #[{ on := 0, ground := Ground.data }, { on := 1, ground := Ground.data }, { on := 1, ground := Ground.chain }], guard := none }) rfl (by rfl) (fun K hK => ?_) Reg.AllG.nil
        · go_simp
          (with_reducible refine ((Sr04.make_any X1 XO x1 xo nq (ngB 1) sq (mag 1) wq3 r1 ro (by have := LQ.out; omega) (by decide)).mono fun _ _ h => RetF.at E6.out h).mono ?_)
          rintro e y3 ⟨X6, x6, Y6, y6, rfl, r7, r8, hx⟩
          have hr0 := hr0.trans hx
          have r1 := r1.since hx
          have ro := ro.since hx
          have gb := gb.since hx
          generalize wq2.heap.size = bq at *
          have hb := hbq
          refine hK.out _ _ ?_ (fun hHeld => ?_)
          · exact hall.out _ hr0
          clear hK K
          try simp only [Act.put, List.setIfInBounds_toArray, List.set_cons_zero, List.set_cons_succ]
          refine' wpAnyH_take (i := 3) (oi := { dst := some 92, op := Op.move (Operand.tmp 95), type := 33, pos := "law.go:161", after := #[{ on := 2, ground := Ground.data }], guard := none }) (v := _) rfl (by kernel_rfl) (by kernel_rfl) (by kernel_rfl) (fun _ _ _ h => h) (Or.inl ⟨by rfl, ?hy6⟩) (by assumption) ?rest6
          case hy6 => (intro w' ss; (try dsimp only at ss); go_simp; first | done | with_reducible rfl)
          try simp only [Act.put, List.setIfInBounds_toArray, List.set_cons_zero, List.set_cons_succ]
          refine' wpAnyH_take (i := 4) (oi := { dst := some 96, op := Op.extract (Operand.tmp 92) 0, type := 31, pos := "law.go:161", after := #[{ on := 3, ground := Ground.data }], guard := none }) (v := _) rfl (by kernel_rfl) (by kernel_rfl) (by kernel_rfl) (fun _ _ _ h => h) (Or.inl ⟨by rfl, ?hy7⟩) (by assumption) ?rest7
          case hy7 => (intro w' ss; (try dsimp only at ss); go_simp; first | done | with_reducible rfl)
          try simp only [Act.put, List.setIfInBounds_toArray, List.set_cons_zero, List.set_cons_succ]
          refine' wpAnyH_take (i := 5) (oi := { dst := some 97, op := Op.extract (Operand.tmp 92) 1, type := 32, pos := "law.go:161", after := #[{ on := 3, ground := Ground.data }, { on := 7, ground := Ground.gcOnly Departure.lateStores }], guard := none }) (v := _) rfl (by kernel_rfl) (by kernel_rfl) (by kernel_rfl) (fun _ _ _ h => h) (Or.inl ⟨by rfl, ?hy8⟩) (by assumption) ?rest8
          case hy8 => (intro w' ss; (try dsimp only at ss); go_simp; first | done | with_reducible rfl)
          try simp only [Act.put, List.setIfInBounds_toArray, List.set_cons_zero, List.set_cons_succ]
          refine wpAnyH_ready (rs := [7]) (by kernel_rfl) (by simp) ?_
          refine AllReadyH.cons (o := { dst := none, op := Op.store 31 (Operand.tmp 13) (Operand.tmp 96), type := 0, pos := "law.go:161", after := #[{ on := 6, ground := Ground.data }, { on := 4, ground := Ground.data }, { on := 2, ground := Ground.chain }, { on := 0, ground := Ground.phase }, { on := 1, ground := Ground.phase }, { on := 2, ground := Ground.phase }, { on := 3, ground := Ground.phase }, { on := 4, ground := Ground.phase }, { on := 5, ground := Ground.textOnly Departure.lateStores }, { on := 6, ground := Ground.phase }], guard := none }) rfl (fun K hK => ?_) AllReadyH.nil
          · obtain ⟨gza, gzb, gzc, gzd⟩ := gb.four
            obtain ⟨fza, fzb, fzc, fzd⟩ := gb.four'
            go_simp
            refine hK.out _ _ ?_ (fun hHeld => ?_)
            · exact hall.out _ (since_put4 hr0 hb _ _ _ _)
            clear hK K
            try simp only [Act.put, List.setIfInBounds_toArray, List.set_cons_zero, List.set_cons_succ]
            refine' wpAnyH_take (i := 8) (oi := { dst := some 14, op := Op.assign (Operand.tmp 97), type := 32, pos := "law.go:161", after := #[{ on := 5, ground := Ground.data }, { on := 7, ground := Ground.chain }, { on := 0, ground := Ground.phase }, { on := 1, ground := Ground.phase }, { on := 2, ground := Ground.phase }, { on := 3, ground := Ground.phase }, { on := 4, ground := Ground.phase }, { on := 5, ground := Ground.phase }, { on := 6, ground := Ground.phase }, { on := 7, ground := Ground.phase }], guard := none }) (v := _) rfl (by kernel_rfl) (by kernel_rfl) (by kernel_rfl) (fun _ _ _ h => h) (Or.inl ⟨by rfl, ?hy9⟩) (by assumption) ?rest9
            case hy9 => (intro w' ss; (try dsimp only at ss); go_simp; first | done | with_reducible rfl)
            try simp only [Act.put, List.setIfInBounds_toArray, List.set_cons_zero, List.set_cons_succ]
            refine wpAnyH_done (by kernel_rfl) ?_ _
            refine NoPanic.normal ?_
            go_wp2_with fail
            go_meet
            exact ⟨_, X6, x6, Y6, y6, rfl, rfl, since_put4 hr0 hb _ _ _ _, gb.put4 _ _ _ _, gb.rowsR r7 (put4_far _ _ _ _ _ _), gb.rowsR r8 (put4_far _ _ _ _ _ _)⟩
    · go_simp
      refine hK.out _ _ ?_ (since_alloc _ _) ?_
      · exact hall.out _ (hr0.trans (since_alloc _ _))
      clear hK K
      try simp only [Act.put, List.setIfInBounds_toArray, List.set_cons_zero, List.set_cons_succ]
      have gb := Bx.fresh wq1 #[.bool false, .slice none 0 0, .bool false, .slice none 0 0] 31
      have hbq := hb1
      have r1 := r1.since (since_alloc wq1 (.cells #[.bool false, .slice none 0 0, .bool false, .slice none 0 0] 31))
      have hr0 := hr0.trans (since_alloc wq1 (.cells #[.bool false, .slice none 0 0, .bool false, .slice none 0 0] 31))
      refine Reg.wpG_ready (rs := [1]) (by kernel_rfl) (by simp) (fun wq4 k4' sq4 => ?_)
      have hr0 := hr0.trans k4'
      have hb4 : v10.heap.size ≤ wq4.heap.size := hr0.size
      have r1 := r1.since k4'
      have gb := gb.since k4'
      refine Reg.AllG.first (o := { dst := some 94, op := Op.call { callee := Callee.value (Operand.func 38), args := #[Operand.const (Value.int IntKind.i64 1)], argTypes := #[2] }, type := 29, pos := "law.go:161", after := #[], guard := none }) rfl (by rfl) (fun K hK => ?_) Reg.AllG.nil
      · go_simp
        (with_reducible refine (Sg03.of_any 1 wq4 (by omega)).mono ?_)
        rintro e y4 ⟨XO, xo, rfl, ro, hx⟩
        refine hK.out _ _ ?_ hx ?_
        · exact hall.out _ (hr0.trans hx)
        clear hK K
        have hr0 := hr0.trans hx
        have r1 := r1.since hx
        have gb := gb.since hx
        try simp only [Act.put, List.setIfInBounds_toArray, List.set_cons_zero, List.set_cons_succ]
        refine Reg.wpG_ready (rs := [2]) (by kernel_rfl) (by simp) (fun wq5 k5' sq5 => ?_)
        have hr0 := hr0.trans k5'
        have hb5 : v10.heap.size ≤ wq5.heap.size := hr0.size
        have r1 := r1.since k5'
        have ro := ro.since k5'
        have gb := gb.since k5'
        refine Reg.AllG.last (o := { dst := some 95, op := Op.call { callee := Callee.value (Operand.func 37), args := #[Operand.tmp 93, Operand.tmp 94], argTypes := #[29, 29] }, type := 33, pos := "law.go:161", after := #[{ on := 0, ground := Ground.data }, { on := 1, ground := Ground.data }, { on := 1, ground := Ground.chain }], guard := none }) rfl (by rfl) (fun K hK => ?_) Reg.AllG.nil
        · go_simp
          (with_reducible refine ((Sr04.make_any X1 XO x1 xo nq (ngB 1) sq (mag 1) wq5 r1 ro (by have := LQ.out; omega) (by decide)).mono fun _ _ h => RetF.at E6.out h).mono ?_)
          rintro e y5 ⟨X6, x6, Y6, y6, rfl, r7, r8, hx⟩
          have hr0 := hr0.trans hx
          have r1 := r1.since hx
          have ro := ro.since hx
          have gb := gb.since hx
          generalize wq1.heap.size = bq at *
          have hb := hbq
          refine hK.out _ _ ?_ (fun hHeld => ?_)
          · exact hall.out _ hr0
          clear hK K
          try simp only [Act.put, List.setIfInBounds_toArray, List.set_cons_zero, List.set_cons_succ]
          refine' wpAnyH_take (i := 3) (oi := { dst := some 92, op := Op.move (Operand.tmp 95), type := 33, pos := "law.go:161", after := #[{ on := 2, ground := Ground.data }], guard := none }) (v := _) rfl (by kernel_rfl) (by kernel_rfl) (by kernel_rfl) (fun _ _ _ h => h) (Or.inl ⟨by rfl, ?hy10⟩) (by assumption) ?rest10
          case hy10 => (intro w' ss; (try dsimp only at ss); go_simp; first | done | with_reducible rfl)
          try simp only [Act.put, List.setIfInBounds_toArray, List.set_cons_zero, List.set_cons_succ]
          refine' wpAnyH_take (i := 4) (oi := { dst := some 96, op := Op.extract (Operand.tmp 92) 0, type := 31, pos := "law.go:161", after := #[{ on := 3, ground := Ground.data }], guard := none }) (v := _) rfl (by kernel_rfl) (by kernel_rfl) (by kernel_rfl) (fun _ _ _ h => h) (Or.inl ⟨by rfl, ?hy11⟩) (by assumption) ?rest11
          case hy11 => (intro w' ss; (try dsimp only at ss); go_simp; first | done | with_reducible rfl)
          try simp only [Act.put, List.setIfInBounds_toArray, List.set_cons_zero, List.set_cons_succ]
          refine' wpAnyH_take (i := 5) (oi := { dst := some 97, op := Op.extract (Operand.tmp 92) 1, type := 32, pos := "law.go:161", after := #[{ on := 3, ground := Ground.data }, { on := 7, ground := Ground.gcOnly Departure.lateStores }], guard := none }) (v := _) rfl (by kernel_rfl) (by kernel_rfl) (by kernel_rfl) (fun _ _ _ h => h) (Or.inl ⟨by rfl, ?hy12⟩) (by assumption) ?rest12
          case hy12 => (intro w' ss; (try dsimp only at ss); go_simp; first | done | with_reducible rfl)
          try simp only [Act.put, List.setIfInBounds_toArray, List.set_cons_zero, List.set_cons_succ]
          refine wpAnyH_ready (rs := [7]) (by kernel_rfl) (by simp) ?_
          refine AllReadyH.cons (o := { dst := none, op := Op.store 31 (Operand.tmp 13) (Operand.tmp 96), type := 0, pos := "law.go:161", after := #[{ on := 6, ground := Ground.data }, { on := 4, ground := Ground.data }, { on := 2, ground := Ground.chain }, { on := 0, ground := Ground.phase }, { on := 1, ground := Ground.phase }, { on := 2, ground := Ground.phase }, { on := 3, ground := Ground.phase }, { on := 4, ground := Ground.phase }, { on := 5, ground := Ground.textOnly Departure.lateStores }, { on := 6, ground := Ground.phase }], guard := none }) rfl (fun K hK => ?_) AllReadyH.nil
          · obtain ⟨gza, gzb, gzc, gzd⟩ := gb.four
            obtain ⟨fza, fzb, fzc, fzd⟩ := gb.four'
            go_simp
            refine hK.out _ _ ?_ (fun hHeld => ?_)
            · exact hall.out _ (since_put4 hr0 hb _ _ _ _)
            clear hK K
            try simp only [Act.put, List.setIfInBounds_toArray, List.set_cons_zero, List.set_cons_succ]
            refine' wpAnyH_take (i := 8) (oi := { dst := some 14, op := Op.assign (Operand.tmp 97), type := 32, pos := "law.go:161", after := #[{ on := 5, ground := Ground.data }, { on := 7, ground := Ground.chain }, { on := 0, ground := Ground.phase }, { on := 1, ground := Ground.phase }, { on := 2, ground := Ground.phase }, { on := 3, ground := Ground.phase }, { on := 4, ground := Ground.phase }, { on := 5, ground := Ground.phase }, { on := 6, ground := Ground.phase }, { on := 7, ground := Ground.phase }], guard := none }) (v := _) rfl (by kernel_rfl) (by kernel_rfl) (by kernel_rfl) (fun _ _ _ h => h) (Or.inl ⟨by rfl, ?hy13⟩) (by assumption) ?rest13
            case hy13 => (intro w' ss; (try dsimp only at ss); go_simp; first | done | with_reducible rfl)
            try simp only [Act.put, List.setIfInBounds_toArray, List.set_cons_zero, List.set_cons_succ]
            refine wpAnyH_done (by kernel_rfl) ?_ _
            refine NoPanic.normal ?_
            go_wp2_with fail
            go_meet
            exact ⟨_, X6, x6, Y6, y6, rfl, rfl, since_put4 hr0 hb _ _ _ _, gb.put4 _ _ _ _, gb.rowsR r7 (put4_far _ _ _ _ _ _), gb.rowsR r8 (put4_far _ _ _ _ _ _)⟩
  case rest =>
    obtain ⟨cl, X6, x6, Y6, y6, rfl, rfl, hcx, gl, r7, r8⟩ := hcut
    have hZ := hZ.trans hcx
    clear hcx hall
    obtain ⟨wp, hwp⟩ : ∃ x, x = wc := ⟨_, rfl⟩
    subst hwp
    go_upto_region 13 with fail
    have hall : Hid (∀ W : World, Since wp W → W.cell? ⟨cl, 0, none⟩ = some (.bool n3) ∧ W.cell? ⟨cl, 1, none⟩ = some (.slice X6 s3.length x6) ∧ W.cell? ⟨cl, 2, none⟩ = some (.bool n4) ∧ W.cell? ⟨cl, 3, none⟩ = some (.slice Y6 s4.length y6)) := fun W h => (gl.since h).four
    go_cut [15, 16] (fun pP pE W => ∃ (c0 : Nat) (X7 : Option Addr) (x7 : Nat) (Y7 : Option Addr) (y7 : Nat), pP = .pointer (some ⟨c0, 0, none⟩) ∧ pE = .int .i64 0 ∧ Since wp W ∧ Bx W c0 #[.bool n5, .slice X7 s5.length x7, .bool n6, .slice Y7 s6.length y7] 31 ∧ Row W (.slice X7 s5.length x7) s5 ∧ Row W (.slice Y7 s6.length y7) s6)
    case first =>
      have hr0 : Since wp wp.drew := Since.drew (Since.refl wp)
      have r7 := r7.since hr0
      have r8 := r8.since hr0
      refine wp_region_noPanic ?_
      refine Reg.wp_region_G (S := fun W => W.cell? ⟨cl, 0, none⟩ = some (.bool n3) ∧ W.cell? ⟨cl, 1, none⟩ = some (.slice X6 s3.length x6) ∧ W.cell? ⟨cl, 2, none⟩ = some (.bool n4) ∧ W.cell? ⟨cl, 3, none⟩ = some (.slice Y6 s4.length y6)) (fun j => [2, 3, 4, 5, 7, 8].contains j) (by kernel_rfl) ?_ ?_
      · exact hall.out _ hr0
      refine' Reg.wpG_take (i := 0) (oi := { dst := some 99, op := Op.load 31 (Operand.tmp 13), type := 31, pos := "law.go:162", after := #[], guard := none }) (v := _) [2, 3, 4, 5, 7, 8] [2, 3, 4, 5, 7, 8] rfl rfl (by kernel_rfl) (by kernel_rfl) (by kernel_rfl) (by kernel_rfl) (by kernel_rfl) (by kernel_rfl) (by kernel_rfl) (fun _ _ _ h => h) (Or.inl ⟨by rfl, Or.inl ?hy14⟩) ?rest14
      case hy14 => (intro w' kk ss; (try dsimp only at ss); go_simp; first | done | with_reducible rfl)
      try simp only [Act.put, List.setIfInBounds_toArray, List.set_cons_zero, List.set_cons_succ]
      refine Reg.wpG_ready (rs := [1, 6]) (by kernel_rfl) (by simp) (fun wq1 k1' sq1 => ?_)
      have hr0 := hr0.trans k1'
      have hb1 : wp.heap.size ≤ wq1.heap.size := hr0.size
      have r7 := r7.since k1'
      have r8 := r8.since k1'
      refine Reg.AllG.first (o := { dst := some 100, op := Op.call { callee := Callee.value (Operand.func 39), args := #[Operand.const (Value.int IntKind.i64 1)], argTypes := #[2] }, type := 31, pos := "law.go:162", after := #[], guard := none }) rfl (by rfl) (fun K hK => ?_) (Reg.AllG.first (o := { dst := some 15, op := Op.alloc 31, type := 0, pos := "law.go:162", after := #[], guard := none }) rfl (by rfl) (fun K hK => ?_) Reg.AllG.nil)
      · go_simp
        (with_reducible refine ((Sr04.of_any 1 wq1 (by omega)).mono fun _ _ h => of_at h).mono ?_)
        rintro e y1 ⟨XO, xo, YO, yo, rfl, ro, po, hx⟩
        refine hK.out _ _ ?_ hx ?_
        · exact hall.out _ (hr0.trans hx)
        clear hK K
        have hr0 := hr0.trans hx
        have r7 := r7.since hx
        have r8 := r8.since hx
        try simp only [Act.put, List.setIfInBounds_toArray, List.set_cons_zero, List.set_cons_succ]
        refine Reg.wpG_ready (rs := [2, 6]) (by kernel_rfl) (by simp) (fun wq2 k2' sq2 => ?_)
        have hr0 := hr0.trans k2'
        have hb2 : wp.heap.size ≤ wq2.heap.size := hr0.size
        have r7 := r7.since k2'
        have r8 := r8.since k2'
        have ro := ro.since k2'
        have po := po.since k2'
        refine Reg.AllG.last (o := { dst := some 101, op := Op.call { callee := Callee.value (Operand.func 11), args := #[Operand.tmp 99, Operand.tmp 100], argTypes := #[31, 31] }, type := 33, pos := "law.go:162", after := #[{ on := 0, ground := Ground.data }, { on := 1, ground := Ground.data }, { on := 1, ground := Ground.chain }], guard := none }) rfl (by rfl) (fun K hK => ?_) (Reg.AllG.first (o := { dst := some 15, op := Op.alloc 31, type := 0, pos := "law.go:162", after := #[], guard := none }) rfl (by rfl) (fun K hK => ?_) Reg.AllG.nil)
        · go_simp
          (with_reducible refine ((Sr04.add_any X6 Y6 XO YO x6 y6 xo yo n3 n4 (ngB 1) (ngB 1) s3 s4 (mag 1) (mag 1) wq2 r7 r8 ro po (by have := LL1.out; omega) (by have := LL1.out; omega) (by decide) (by decide)).mono fun _ _ h => RetF.at E7.out h).mono ?_)
          rintro e y2 ⟨X7, x7, Y7, y7, rfl, r9, r10, hx⟩
          have hr0 := hr0.trans hx
          have r7 := r7.since hx
          have r8 := r8.since hx
          have ro := ro.since hx
          have po := po.since hx
          have hb : wp.heap.size ≤ y2.heap.size := hr0.size
          refine hK.out _ _ ?_ (fun hHeld => ?_)
          · exact hall.out _ hr0
          clear hK K
          try simp only [Act.put, List.setIfInBounds_toArray, List.set_cons_zero, List.set_cons_succ]
          refine' wpAnyH_take (i := 3) (oi := { dst := some 98, op := Op.move (Operand.tmp 101), type := 33, pos := "law.go:162", after := #[{ on := 2, ground := Ground.data }], guard := none }) (v := _) rfl (by kernel_rfl) (by kernel_rfl) (by kernel_rfl) (fun _ _ _ h => h) (Or.inl ⟨by rfl, ?hy15⟩) (by assumption) ?rest15
          case hy15 => (intro w' ss; (try dsimp only at ss); go_simp; first | done | with_reducible rfl)
          try simp only [Act.put, List.setIfInBounds_toArray, List.set_cons_zero, List.set_cons_succ]
          refine' wpAnyH_take (i := 4) (oi := { dst := some 102, op := Op.extract (Operand.tmp 98) 0, type := 31, pos := "law.go:162", after := #[{ on := 3, ground := Ground.data }], guard := none }) (v := _) rfl (by kernel_rfl) (by kernel_rfl) (by kernel_rfl) (fun _ _ _ h => h) (Or.inl ⟨by rfl, ?hy16⟩) (by assumption) ?rest16
          case hy16 => (intro w' ss; (try dsimp only at ss); go_simp; first | done | with_reducible rfl)
          try simp only [Act.put, List.setIfInBounds_toArray, List.set_cons_zero, List.set_cons_succ]
          refine' wpAnyH_take (i := 5) (oi := { dst := some 103, op := Op.extract (Operand.tmp 98) 1, type := 32, pos := "law.go:162", after := #[{ on := 3, ground := Ground.data }, { on := 7, ground := Ground.gcOnly Departure.lateStores }], guard := none }) (v := _) rfl (by kernel_rfl) (by kernel_rfl) (by kernel_rfl) (fun _ _ _ h => h) (Or.inl ⟨by rfl, ?hy17⟩) (by assumption) ?rest17
          case hy17 => (intro w' ss; (try dsimp only at ss); go_simp; first | done | with_reducible rfl)
          try simp only [Act.put, List.setIfInBounds_toArray, List.set_cons_zero, List.set_cons_succ]
          refine wpAnyH_ready (rs := [6]) (by kernel_rfl) (by simp) ?_
          refine AllReadyH.cons (o := { dst := some 15, op := Op.alloc 31, type := 0, pos := "law.go:162", after := #[], guard := none }) rfl (fun K hK => ?_) AllReadyH.nil
          · go_simp
            refine hK.out _ _ ?_ (fun hHeld => ?_)
            · exact hall.out _ (hr0.trans (since_alloc _ _))
            clear hK K
            try simp only [Act.put, List.setIfInBounds_toArray, List.set_cons_zero, List.set_cons_succ]
            have gb := Bx.fresh y2 #[.bool false, .slice none 0 0, .bool false, .slice none 0 0] 31
            refine wpAnyH_ready (rs := [7]) (by kernel_rfl) (by simp) ?_
            refine AllReadyH.cons (o := { dst := none, op := Op.store 31 (Operand.tmp 15) (Operand.tmp 102), type := 0, pos := "law.go:162", after := #[{ on := 6, ground := Ground.data }, { on := 4, ground := Ground.data }, { on := 2, ground := Ground.chain }, { on := 0, ground := Ground.phase }, { on := 1, ground := Ground.phase }, { on := 2, ground := Ground.phase }, { on := 3, ground := Ground.phase }, { on := 4, ground := Ground.phase }, { on := 5, ground := Ground.textOnly Departure.lateStores }, { on := 6, ground := Ground.phase }], guard := none }) rfl (fun K hK => ?_) AllReadyH.nil
            · obtain ⟨gza, gzb, gzc, gzd⟩ := gb.four
              obtain ⟨fza, fzb, fzc, fzd⟩ := gb.four'
              go_simp
              refine hK.out _ _ ?_ (fun hHeld => ?_)
              · exact hall.out _ (hr0.trans (since_alloc _ _))
              clear hK K
              try simp only [Act.put, List.setIfInBounds_toArray, List.set_cons_zero, List.set_cons_succ]
              refine' wpAnyH_take (i := 8) (oi := { dst := some 16, op := Op.assign (Operand.tmp 103), type := 32, pos := "law.go:162", after := #[{ on := 5, ground := Ground.data }, { on := 7, ground := Ground.chain }, { on := 0, ground := Ground.phase }, { on := 1, ground := Ground.phase }, { on := 2, ground := Ground.phase }, { on := 3, ground := Ground.phase }, { on := 4, ground := Ground.phase }, { on := 5, ground := Ground.phase }, { on := 6, ground := Ground.phase }, { on := 7, ground := Ground.phase }], guard := none }) (v := _) rfl (by kernel_rfl) (by kernel_rfl) (by kernel_rfl) (fun _ _ _ h => h) (Or.inl ⟨by rfl, ?hy18⟩) (by assumption) ?rest18
              case hy18 => (intro w' ss; (try dsimp only at ss); go_simp; first | done | with_reducible rfl)
              try simp only [Act.put, List.setIfInBounds_toArray, List.set_cons_zero, List.set_cons_succ]
              refine wpAnyH_done (by kernel_rfl) ?_ _
              refine NoPanic.normal ?_
              go_wp2_with fail
              go_meet
              exact ⟨_, X7, x7, Y7, y7, rfl, rfl, hr0.trans (since_alloc _ _), Bx.fresh _ _ _, r9.since (since_alloc _ _), r10.since (since_alloc _ _)⟩
        · go_simp
          refine hK.out _ _ ?_ (since_alloc _ _) ?_
          · exact hall.out _ (hr0.trans (since_alloc _ _))
          clear hK K
          try simp only [Act.put, List.setIfInBounds_toArray, List.set_cons_zero, List.set_cons_succ]
          have gb := Bx.fresh wq2 #[.bool false, .slice none 0 0, .bool false, .slice none 0 0] 31
          have hbq := hb2
          have r7 := r7.since (since_alloc wq2 (.cells #[.bool false, .slice none 0 0, .bool false, .slice none 0 0] 31))
          have r8 := r8.since (since_alloc wq2 (.cells #[.bool false, .slice none 0 0, .bool false, .slice none 0 0] 31))
          have ro := ro.since (since_alloc wq2 (.cells #[.bool false, .slice none 0 0, .bool false, .slice none 0 0] 31))
          have po := po.since (since_alloc wq2 (.cells #[.bool false, .slice none 0 0, .bool false, .slice none 0 0] 31))
          have hr0 := hr0.trans (since_alloc wq2 (.cells #[.bool false, .slice none 0 0, .bool false, .slice none 0 0] 31))
          refine Reg.wpG_ready (rs := [2]) (by kernel_rfl) (by simp) (fun wq3 k3' sq3 => ?_)
          have hr0 := hr0.trans k3'
          have hb3 : wp.heap.size ≤ wq3.heap.size := hr0.size
          have r7 := r7.since k3'
          have r8 := r8.since k3'
          have ro := ro.since k3'
          have po := po.since k3'
          have gb := gb.since k3'
          refine Reg.AllG.last (o := { dst := some 101, op := Op.call { callee := Callee.value (Operand.func 11), args := #[Operand.tmp 99, Operand.tmp 100], argTypes := #[31, 31] }, type := 33, pos := "law.go:162", after := #[{ on := 0, ground := Ground.data }, { on := 1, ground := Ground.data }, { on := 1, ground := Ground.chain }], guard := none }) rfl (by rfl) (fun K hK => ?_) Reg.AllG.nil
          · go_simp
            (with_reducible refine ((Sr04.add_any X6 Y6 XO YO x6 y6 xo yo n3 n4 (ngB 1) (ngB 1) s3 s4 (mag 1) (mag 1) wq3 r7 r8 ro po (by have := LL1.out; omega) (by have := LL1.out; omega) (by decide) (by decide)).mono fun _ _ h => RetF.at E7.out h).mono ?_)
            rintro e y3 ⟨X7, x7, Y7, y7, rfl, r9, r10, hx⟩
            have hr0 := hr0.trans hx
            have r7 := r7.since hx
            have r8 := r8.since hx
            have ro := ro.since hx
            have po := po.since hx
            have gb := gb.since hx
            generalize wq2.heap.size = bq at *
            have hb := hbq
            refine hK.out _ _ ?_ (fun hHeld => ?_)
            · exact hall.out _ hr0
            clear hK K
            try simp only [Act.put, List.setIfInBounds_toArray, List.set_cons_zero, List.set_cons_succ]
            refine' wpAnyH_take (i := 3) (oi := { dst := some 98, op := Op.move (Operand.tmp 101), type := 33, pos := "law.go:162", after := #[{ on := 2, ground := Ground.data }], guard := none }) (v := _) rfl (by kernel_rfl) (by kernel_rfl) (by kernel_rfl) (fun _ _ _ h => h) (Or.inl ⟨by rfl, ?hy19⟩) (by assumption) ?rest19
            case hy19 => (intro w' ss; (try dsimp only at ss); go_simp; first | done | with_reducible rfl)
            try simp only [Act.put, List.setIfInBounds_toArray, List.set_cons_zero, List.set_cons_succ]
            refine' wpAnyH_take (i := 4) (oi := { dst := some 102, op := Op.extract (Operand.tmp 98) 0, type := 31, pos := "law.go:162", after := #[{ on := 3, ground := Ground.data }], guard := none }) (v := _) rfl (by kernel_rfl) (by kernel_rfl) (by kernel_rfl) (fun _ _ _ h => h) (Or.inl ⟨by rfl, ?hy20⟩) (by assumption) ?rest20
            case hy20 => (intro w' ss; (try dsimp only at ss); go_simp; first | done | with_reducible rfl)
            try simp only [Act.put, List.setIfInBounds_toArray, List.set_cons_zero, List.set_cons_succ]
            refine' wpAnyH_take (i := 5) (oi := { dst := some 103, op := Op.extract (Operand.tmp 98) 1, type := 32, pos := "law.go:162", after := #[{ on := 3, ground := Ground.data }, { on := 7, ground := Ground.gcOnly Departure.lateStores }], guard := none }) (v := _) rfl (by kernel_rfl) (by kernel_rfl) (by kernel_rfl) (fun _ _ _ h => h) (Or.inl ⟨by rfl, ?hy21⟩) (by assumption) ?rest21
            case hy21 => (intro w' ss; (try dsimp only at ss); go_simp; first | done | with_reducible rfl)
            try simp only [Act.put, List.setIfInBounds_toArray, List.set_cons_zero, List.set_cons_succ]
            refine wpAnyH_ready (rs := [7]) (by kernel_rfl) (by simp) ?_
            refine AllReadyH.cons (o := { dst := none, op := Op.store 31 (Operand.tmp 15) (Operand.tmp 102), type := 0, pos := "law.go:162", after := #[{ on := 6, ground := Ground.data }, { on := 4, ground := Ground.data }, { on := 2, ground := Ground.chain }, { on := 0, ground := Ground.phase }, { on := 1, ground := Ground.phase }, { on := 2, ground := Ground.phase }, { on := 3, ground := Ground.phase }, { on := 4, ground := Ground.phase }, { on := 5, ground := Ground.textOnly Departure.lateStores }, { on := 6, ground := Ground.phase }], guard := none }) rfl (fun K hK => ?_) AllReadyH.nil
            · obtain ⟨gza, gzb, gzc, gzd⟩ := gb.four
              obtain ⟨fza, fzb, fzc, fzd⟩ := gb.four'
              go_simp
              refine hK.out _ _ ?_ (fun hHeld => ?_)
              · exact hall.out _ (since_put4 hr0 hb _ _ _ _)
              clear hK K
              try simp only [Act.put, List.setIfInBounds_toArray, List.set_cons_zero, List.set_cons_succ]
              refine' wpAnyH_take (i := 8) (oi := { dst := some 16, op := Op.assign (Operand.tmp 103), type := 32, pos := "law.go:162", after := #[{ on := 5, ground := Ground.data }, { on := 7, ground := Ground.chain }, { on := 0, ground := Ground.phase }, { on := 1, ground := Ground.phase }, { on := 2, ground := Ground.phase }, { on := 3, ground := Ground.phase }, { on := 4, ground := Ground.phase }, { on := 5, ground := Ground.phase }, { on := 6, ground := Ground.phase }, { on := 7, ground := Ground.phase }], guard := none }) (v := _) rfl (by kernel_rfl) (by kernel_rfl) (by kernel_rfl) (fun _ _ _ h => h) (Or.inl ⟨by rfl, ?hy22⟩) (by assumption) ?rest22
              case hy22 => (intro w' ss; (try dsimp only at ss); go_simp; first | done | with_reducible rfl)
              try simp only [Act.put, List.setIfInBounds_toArray, List.set_cons_zero, List.set_cons_succ]
              refine wpAnyH_done (by kernel_rfl) ?_ _
              refine NoPanic.normal ?_
              go_wp2_with fail
              go_meet
              exact ⟨_, X7, x7, Y7, y7, rfl, rfl, since_put4 hr0 hb _ _ _ _, gb.put4 _ _ _ _, gb.rowsR r9 (put4_far _ _ _ _ _ _), gb.rowsR r10 (put4_far _ _ _ _ _ _)⟩
      · go_simp
        refine hK.out _ _ ?_ (since_alloc _ _) ?_
        · exact hall.out _ (hr0.trans (since_alloc _ _))
        clear hK K
        try simp only [Act.put, List.setIfInBounds_toArray, List.set_cons_zero, List.set_cons_succ]
        have gb := Bx.fresh wq1 #[.bool false, .slice none 0 0, .bool false, .slice none 0 0] 31
        have hbq := hb1
        have r7 := r7.since (since_alloc wq1 (.cells #[.bool false, .slice none 0 0, .bool false, .slice none 0 0] 31))
        have r8 := r8.since (since_alloc wq1 (.cells #[.bool false, .slice none 0 0, .bool false, .slice none 0 0] 31))
        have hr0 := hr0.trans (since_alloc wq1 (.cells #[.bool false, .slice none 0 0, .bool false, .slice none 0 0] 31))
        refine Reg.wpG_ready (rs := [1]) (by kernel_rfl) (by simp) (fun wq4 k4' sq4 => ?_)
        have hr0 := hr0.trans k4'
        have hb4 : wp.heap.size ≤ wq4.heap.size := hr0.size
        have r7 := r7.since k4'
        have r8 := r8.since k4'
        have gb := gb.since k4'
        refine Reg.AllG.first (o := { dst := some 100, op := Op.call { callee := Callee.value (Operand.func 39), args := #[Operand.const (Value.int IntKind.i64 1)], argTypes := #[2] }, type := 31, pos := "law.go:162", after := #[], guard := none }) rfl (by rfl) (fun K hK => ?_) Reg.AllG.nil
        · go_simp
          (with_reducible refine ((Sr04.of_any 1 wq4 (by omega)).mono fun _ _ h => of_at h).mono ?_)
          rintro e y4 ⟨XO, xo, YO, yo, rfl, ro, po, hx⟩
          refine hK.out _ _ ?_ hx ?_
          · exact hall.out _ (hr0.trans hx)
          clear hK K
          have hr0 := hr0.trans hx
          have r7 := r7.since hx
          have r8 := r8.since hx
          have gb := gb.since hx
          try simp only [Act.put, List.setIfInBounds_toArray, List.set_cons_zero, List.set_cons_succ]
          refine Reg.wpG_ready (rs := [2]) (by kernel_rfl) (by simp) (fun wq5 k5' sq5 => ?_)
          have hr0 := hr0.trans k5'
          have hb5 : wp.heap.size ≤ wq5.heap.size := hr0.size
          have r7 := r7.since k5'
          have r8 := r8.since k5'
          have ro := ro.since k5'
          have po := po.since k5'
          have gb := gb.since k5'
          refine Reg.AllG.last (o := { dst := some 101, op := Op.call { callee := Callee.value (Operand.func 11), args := #[Operand.tmp 99, Operand.tmp 100], argTypes := #[31, 31] }, type := 33, pos := "law.go:162", after := #[{ on := 0, ground := Ground.data }, { on := 1, ground := Ground.data }, { on := 1, ground := Ground.chain }], guard := none }) rfl (by rfl) (fun K hK => ?_) Reg.AllG.nil
          · go_simp
            (with_reducible refine ((Sr04.add_any X6 Y6 XO YO x6 y6 xo yo n3 n4 (ngB 1) (ngB 1) s3 s4 (mag 1) (mag 1) wq5 r7 r8 ro po (by have := LL1.out; omega) (by have := LL1.out; omega) (by decide) (by decide)).mono fun _ _ h => RetF.at E7.out h).mono ?_)
            rintro e y5 ⟨X7, x7, Y7, y7, rfl, r9, r10, hx⟩
            have hr0 := hr0.trans hx
            have r7 := r7.since hx
            have r8 := r8.since hx
            have ro := ro.since hx
            have po := po.since hx
            have gb := gb.since hx
            generalize wq1.heap.size = bq at *
            have hb := hbq
            refine hK.out _ _ ?_ (fun hHeld => ?_)
            · exact hall.out _ hr0
            clear hK K
            try simp only [Act.put, List.setIfInBounds_toArray, List.set_cons_zero, List.set_cons_succ]
            refine' wpAnyH_take (i := 3) (oi := { dst := some 98, op := Op.move (Operand.tmp 101), type := 33, pos := "law.go:162", after := #[{ on := 2, ground := Ground.data }], guard := none }) (v := _) rfl (by kernel_rfl) (by kernel_rfl) (by kernel_rfl) (fun _ _ _ h => h) (Or.inl ⟨by rfl, ?hy23⟩) (by assumption) ?rest23
            case hy23 => (intro w' ss; (try dsimp only at ss); go_simp; first | done | with_reducible rfl)
            try simp only [Act.put, List.setIfInBounds_toArray, List.set_cons_zero, List.set_cons_succ]
            refine' wpAnyH_take (i := 4) (oi := { dst := some 102, op := Op.extract (Operand.tmp 98) 0, type := 31, pos := "law.go:162", after := #[{ on := 3, ground := Ground.data }], guard := none }) (v := _) rfl (by kernel_rfl) (by kernel_rfl) (by kernel_rfl) (fun _ _ _ h => h) (Or.inl ⟨by rfl, ?hy24⟩) (by assumption) ?rest24
            case hy24 => (intro w' ss; (try dsimp only at ss); go_simp; first | done | with_reducible rfl)
            try simp only [Act.put, List.setIfInBounds_toArray, List.set_cons_zero, List.set_cons_succ]
            refine' wpAnyH_take (i := 5) (oi := { dst := some 103, op := Op.extract (Operand.tmp 98) 1, type := 32, pos := "law.go:162", after := #[{ on := 3, ground := Ground.data }, { on := 7, ground := Ground.gcOnly Departure.lateStores }], guard := none }) (v := _) rfl (by kernel_rfl) (by kernel_rfl) (by kernel_rfl) (fun _ _ _ h => h) (Or.inl ⟨by rfl, ?hy25⟩) (by assumption) ?rest25
            case hy25 => (intro w' ss; (try dsimp only at ss); go_simp; first | done | with_reducible rfl)
            try simp only [Act.put, List.setIfInBounds_toArray, List.set_cons_zero, List.set_cons_succ]
            refine wpAnyH_ready (rs := [7]) (by kernel_rfl) (by simp) ?_
            refine AllReadyH.cons (o := { dst := none, op := Op.store 31 (Operand.tmp 15) (Operand.tmp 102), type := 0, pos := "law.go:162", after := #[{ on := 6, ground := Ground.data }, { on := 4, ground := Ground.data }, { on := 2, ground := Ground.chain }, { on := 0, ground := Ground.phase }, { on := 1, ground := Ground.phase }, { on := 2, ground := Ground.phase }, { on := 3, ground := Ground.phase }, { on := 4, ground := Ground.phase }, { on := 5, ground := Ground.textOnly Departure.lateStores }, { on := 6, ground := Ground.phase }], guard := none }) rfl (fun K hK => ?_) AllReadyH.nil
            · obtain ⟨gza, gzb, gzc, gzd⟩ := gb.four
              obtain ⟨fza, fzb, fzc, fzd⟩ := gb.four'
              go_simp
              refine hK.out _ _ ?_ (fun hHeld => ?_)
              · exact hall.out _ (since_put4 hr0 hb _ _ _ _)
              clear hK K
              try simp only [Act.put, List.setIfInBounds_toArray, List.set_cons_zero, List.set_cons_succ]
              refine' wpAnyH_take (i := 8) (oi := { dst := some 16, op := Op.assign (Operand.tmp 103), type := 32, pos := "law.go:162", after := #[{ on := 5, ground := Ground.data }, { on := 7, ground := Ground.chain }, { on := 0, ground := Ground.phase }, { on := 1, ground := Ground.phase }, { on := 2, ground := Ground.phase }, { on := 3, ground := Ground.phase }, { on := 4, ground := Ground.phase }, { on := 5, ground := Ground.phase }, { on := 6, ground := Ground.phase }, { on := 7, ground := Ground.phase }], guard := none }) (v := _) rfl (by kernel_rfl) (by kernel_rfl) (by kernel_rfl) (fun _ _ _ h => h) (Or.inl ⟨by rfl, ?hy26⟩) (by assumption) ?rest26
              case hy26 => (intro w' ss; (try dsimp only at ss); go_simp; first | done | with_reducible rfl)
              try simp only [Act.put, List.setIfInBounds_toArray, List.set_cons_zero, List.set_cons_succ]
              refine wpAnyH_done (by kernel_rfl) ?_ _
              refine NoPanic.normal ?_
              go_wp2_with fail
              go_meet
              exact ⟨_, X7, x7, Y7, y7, rfl, rfl, since_put4 hr0 hb _ _ _ _, gb.put4 _ _ _ _, gb.rowsR r9 (put4_far _ _ _ _ _ _), gb.rowsR r10 (put4_far _ _ _ _ _ _)⟩
    case rest =>
      obtain ⟨ct, X7, x7, Y7, y7, rfl, rfl, hcx, gt, r9, r10⟩ := hcut
      have gl := gl.since hcx
      have r7 := r7.since hcx
      have r8 := r8.since hcx
      have hS := hZ.trans hcx
      clear hcx hall hZ
      obtain ⟨wt, hwt⟩ : ∃ x, x = wc := ⟨_, rfl⟩
      subst hwt
      go_upto_region 14 with fail
      have hall : Hid (∀ W : World, Since wt W → W.cell? ⟨w.heap.size, 0, none⟩ = some (.bool b0) ∧ W.cell? ⟨w.heap.size, 1, none⟩ = some (.slice a0 p0.length cap0) ∧ W.cell? ⟨w.heap.size, 2, none⟩ = some (.bool sg0) ∧ W.cell? ⟨w.heap.size, 3, none⟩ = some (.slice ad0 q0.length cp0) ∧ W.cell? ⟨cl, 0, none⟩ = some (.bool n3) ∧ W.cell? ⟨cl, 1, none⟩ = some (.slice X6 s3.length x6) ∧ W.cell? ⟨cl, 2, none⟩ = some (.bool n4) ∧ W.cell? ⟨cl, 3, none⟩ = some (.slice Y6 s4.length y6) ∧ W.cell? ⟨ct, 0, none⟩ = some (.bool n5) ∧ W.cell? ⟨ct, 1, none⟩ = some (.slice X7 s5.length x7) ∧ W.cell? ⟨ct, 2, none⟩ = some (.bool n6) ∧ W.cell? ⟨ct, 3, none⟩ = some (.slice Y7 s6.length y7)) := fun W h => by
        obtain ⟨k0a, k0b, k0c, k0d⟩ := (hbx.out _ (hS.trans h)).four
        obtain ⟨la, lb, lc, ld⟩ := (gl.since h).four
        obtain ⟨ta, tb, tc, td⟩ := (gt.since h).four
        exact ⟨k0a, k0b, k0c, k0d, la, lb, lc, ld, ta, tb, tc, td⟩
      have hr0 : Since wt wt.drew := Since.drew (Since.refl wt)
      have r7 := r7.since hr0
      have r8 := r8.since hr0
      have r9 := r9.since hr0
      have r10 := r10.since hr0
      refine wp_region_noPanic ?_
      refine Reg.wp_region_G (S := fun W => W.cell? ⟨w.heap.size, 0, none⟩ = some (.bool b0) ∧ W.cell? ⟨w.heap.size, 1, none⟩ = some (.slice a0 p0.length cap0) ∧ W.cell? ⟨w.heap.size, 2, none⟩ = some (.bool sg0) ∧ W.cell? ⟨w.heap.size, 3, none⟩ = some (.slice ad0 q0.length cp0) ∧ W.cell? ⟨cl, 0, none⟩ = some (.bool n3) ∧ W.cell? ⟨cl, 1, none⟩ = some (.slice X6 s3.length x6) ∧ W.cell? ⟨cl, 2, none⟩ = some (.bool n4) ∧ W.cell? ⟨cl, 3, none⟩ = some (.slice Y6 s4.length y6) ∧ W.cell? ⟨ct, 0, none⟩ = some (.bool n5) ∧ W.cell? ⟨ct, 1, none⟩ = some (.slice X7 s5.length x7) ∧ W.cell? ⟨ct, 2, none⟩ = some (.bool n6) ∧ W.cell? ⟨ct, 3, none⟩ = some (.slice Y7 s6.length y7)) (fun j => [].contains j) (by kernel_rfl) ?_ ?_
      · exact hall.out _ hr0
      refine' Reg.wpG_take (i := 0) (oi := { dst := some 105, op := Op.load 31 (Operand.tmp 13), type := 31, pos := "law.go:163", after := #[], guard := none }) (v := _) [3, 4, 5, 6, 7, 8] [] rfl rfl (by kernel_rfl) (by kernel_rfl) (by kernel_rfl) (by kernel_rfl) (by kernel_rfl) (by kernel_rfl) (by kernel_rfl) (fun _ _ _ h => h) (Or.inl ⟨by rfl, Or.inl ?hy28⟩) ?rest28
      case hy28 => (intro w' kk ss; (try dsimp only at ss); go_simp; first | done | with_reducible rfl)
      try simp only [Act.put, List.setIfInBounds_toArray, List.set_cons_zero, List.set_cons_succ]
      refine' Reg.wpG_take (i := 1) (oi := { dst := some 106, op := Op.load 26 (Operand.tmp 1), type := 26, pos := "law.go:163", after := #[], guard := none }) (v := _) [2, 3, 4, 5, 6, 7, 8] [] rfl rfl (by kernel_rfl) (by kernel_rfl) (by kernel_rfl) (by kernel_rfl) (by kernel_rfl) (by kernel_rfl) (by kernel_rfl) (fun _ _ _ h => h) (Or.inl ⟨by rfl, Or.inl ?hy29⟩) ?rest29
      case hy29 => (intro w' kk ss; (try dsimp only at ss); go_simp; first | done | with_reducible rfl)
      try simp only [Act.put, List.setIfInBounds_toArray, List.set_cons_zero, List.set_cons_succ]
      refine Reg.wpG_take (i := 2) (oi := { dst := some 107, op := Op.call { callee := Callee.value (Operand.func 12), args := #[Operand.tmp 106], argTypes := #[26] }, type := 31, pos := "law.go:163", after := #[{ on := 1, ground := Ground.data }], guard := none }) (v := .agg #[.bool b0, .slice a0 p0.length cap0, .bool sg0, .slice ad0 q0.length cp0]) [3, 4, 5, 6, 7, 8] [] rfl rfl (by kernel_rfl) (by kernel_rfl) (by kernel_rfl) (by kernel_rfl) (by kernel_rfl) (by kernel_rfl) (by kernel_rfl) (fun _ _ _ h => h) (Or.inl ⟨by rfl, Or.inr ⟨12, #[.agg #[.bool b0, .slice a0 p0.length cap0, .bool sg0, .slice ad0 q0.length cp0]], fun w' kk ss => ⟨?_, ?_⟩⟩⟩) ?_
      · (try dsimp only at ss); go_simp
      · exact (Law04.theirs_any a0 ad0 p0.length cap0 q0.length cp0 b0 sg0 w').mono fun e w'' h => ⟨h.1, h.2, hall.out _ (hr0.trans (kk.trans h.2))⟩
      try simp only [Act.put, List.setIfInBounds_toArray, List.set_cons_zero, List.set_cons_succ]
      refine Reg.wpG_take (i := 3) (oi := { dst := some 108, op := Op.call { callee := Callee.value (Operand.func 16), args := #[Operand.tmp 105, Operand.tmp 107], argTypes := #[31, 31] }, type := 40, pos := "law.go:163", after := #[{ on := 0, ground := Ground.data }, { on := 2, ground := Ground.data }, { on := 2, ground := Ground.chain }], guard := none }) (v := .tuple #[.int .i64 c, .int .i64 0]) [4, 5, 6, 7, 8] [] rfl rfl (by kernel_rfl) (by kernel_rfl) (by kernel_rfl) (by kernel_rfl) (by kernel_rfl) (by kernel_rfl) (by kernel_rfl) (fun _ _ _ h => h) (Or.inl ⟨by rfl, Or.inr ⟨16, #[.agg #[.bool n3, .slice X6 s3.length x6, .bool n4, .slice Y6 s4.length y6], .agg #[.bool b0, .slice a0 p0.length cap0, .bool sg0, .slice ad0 q0.length cp0]], fun w' kk ss => ⟨?_, ?_⟩⟩⟩) ?_
      · (try dsimp only at ss); go_simp
      · exact (cmp_val (ns := Sr04.cmp_any X6 Y6 a0 ad0 x6 y6 cap0 cp0 n3 n4 b0 sg0 s3 s4 p0 q0 w' (r7.since kk) (r8.since kk) (P0.out.since (hS0.trans (hS.trans (hr0.trans kk)))) (Q0.out.since (hS0.trans (hS.trans (hr0.trans kk)))) (by have := LL1.out; omega) (by have := LL1.out; omega) (by have := FW.out; omega) (by have := FW.out; omega)) E8.out).mono fun e w'' h => ⟨h.1, h.2, hall.out _ (hr0.trans (kk.trans h.2))⟩
      try simp only [Act.put, List.setIfInBounds_toArray, List.set_cons_zero, List.set_cons_succ]
      refine' Reg.wpG_take (i := 4) (oi := { dst := some 104, op := Op.move (Operand.tmp 108), type := 40, pos := "law.go:163", after := #[{ on := 3, ground := Ground.data }], guard := none }) (v := _) [5, 6, 7, 8] [] rfl rfl (by kernel_rfl) (by kernel_rfl) (by kernel_rfl) (by kernel_rfl) (by kernel_rfl) (by kernel_rfl) (by kernel_rfl) (fun _ _ _ h => h) (Or.inl ⟨by rfl, Or.inl ?hy30⟩) ?rest30
      case hy30 => (intro w' kk ss; (try dsimp only at ss); go_simp; first | done | with_reducible rfl)
      try simp only [Act.put, List.setIfInBounds_toArray, List.set_cons_zero, List.set_cons_succ]
      refine' Reg.wpG_take (i := 5) (oi := { dst := some 109, op := Op.extract (Operand.tmp 104) 0, type := 3, pos := "law.go:163", after := #[{ on := 4, ground := Ground.data }], guard := none }) (v := _) [7, 8] [] rfl rfl (by kernel_rfl) (by kernel_rfl) (by kernel_rfl) (by kernel_rfl) (by kernel_rfl) (by kernel_rfl) (by kernel_rfl) (fun _ _ _ h => h) (Or.inl ⟨by rfl, Or.inl ?hy31⟩) ?rest31
      case hy31 => (intro w' kk ss; (try dsimp only at ss); go_simp; first | done | with_reducible rfl)
      try simp only [Act.put, List.setIfInBounds_toArray, List.set_cons_zero, List.set_cons_succ]
      refine' Reg.wpG_take (i := 6) (oi := { dst := some 110, op := Op.extract (Operand.tmp 104) 1, type := 32, pos := "law.go:163", after := #[{ on := 4, ground := Ground.data }, { on := 7, ground := Ground.gcOnly Departure.lateStores }], guard := none }) (v := _) [8] [] rfl rfl (by kernel_rfl) (by kernel_rfl) (by kernel_rfl) (by kernel_rfl) (by kernel_rfl) (by kernel_rfl) (by kernel_rfl) (fun _ _ _ h => h) (Or.inl ⟨by rfl, Or.inl ?hy32⟩) ?rest32
      case hy32 => (intro w' kk ss; (try dsimp only at ss); go_simp; first | done | with_reducible rfl)
      try simp only [Act.put, List.setIfInBounds_toArray, List.set_cons_zero, List.set_cons_succ]
      refine' Reg.wpG_take (i := 7) (oi := { dst := some 17, op := Op.assign (Operand.tmp 109), type := 3, pos := "law.go:163", after := #[{ on := 5, ground := Ground.data }, { on := 3, ground := Ground.chain }, { on := 0, ground := Ground.phase }, { on := 1, ground := Ground.phase }, { on := 2, ground := Ground.phase }, { on := 3, ground := Ground.phase }, { on := 4, ground := Ground.phase }, { on := 5, ground := Ground.phase }, { on := 6, ground := Ground.textOnly Departure.lateStores }], guard := none }) (v := _) [8] [] rfl rfl (by kernel_rfl) (by kernel_rfl) (by kernel_rfl) (by kernel_rfl) (by kernel_rfl) (by kernel_rfl) (by kernel_rfl) (fun _ _ _ h => h) (Or.inl ⟨by rfl, Or.inl ?hy33⟩) ?rest33
      case hy33 => (intro w' kk ss; (try dsimp only at ss); go_simp; first | done | with_reducible rfl)
      try simp only [Act.put, List.setIfInBounds_toArray, List.set_cons_zero, List.set_cons_succ]
      refine' Reg.wpG_take (i := 8) (oi := { dst := some 18, op := Op.assign (Operand.tmp 110), type := 32, pos := "law.go:163", after := #[{ on := 6, ground := Ground.data }, { on := 7, ground := Ground.chain }, { on := 0, ground := Ground.phase }, { on := 1, ground := Ground.phase }, { on := 2, ground := Ground.phase }, { on := 3, ground := Ground.phase }, { on := 4, ground := Ground.phase }, { on := 5, ground := Ground.phase }, { on := 6, ground := Ground.phase }, { on := 7, ground := Ground.phase }], guard := none }) (v := _) [] [] rfl rfl (by kernel_rfl) (by kernel_rfl) (by kernel_rfl) (by kernel_rfl) (by kernel_rfl) (by kernel_rfl) (by kernel_rfl) (fun _ _ _ h => h) (Or.inl ⟨by rfl, Or.inl ?hy34⟩) ?rest34
      case hy34 => (intro w' kk ss; (try dsimp only at ss); go_simp; first | done | with_reducible rfl)
      try simp only [Act.put, List.setIfInBounds_toArray, List.set_cons_zero, List.set_cons_succ]
      refine Reg.wpG_done (by kernel_rfl) (fun we ke se => ?_) _
      refine NoPanic.normal ?_
      have hr0 := hr0.trans ke
      have r7 := r7.since ke
      have r8 := r8.since ke
      have r9 := r9.since ke
      have r10 := r10.since ke
      clear ke
      have hQ := hr0
      clear hr0 hall
      go_upto_region 15 with fail
      have hall : Hid (∀ W : World, Since we W → W.cell? ⟨w.heap.size, 0, none⟩ = some (.bool b0) ∧ W.cell? ⟨w.heap.size, 1, none⟩ = some (.slice a0 p0.length cap0) ∧ W.cell? ⟨w.heap.size, 2, none⟩ = some (.bool sg0) ∧ W.cell? ⟨w.heap.size, 3, none⟩ = some (.slice ad0 q0.length cp0) ∧ W.cell? ⟨cl, 0, none⟩ = some (.bool n3) ∧ W.cell? ⟨cl, 1, none⟩ = some (.slice X6 s3.length x6) ∧ W.cell? ⟨cl, 2, none⟩ = some (.bool n4) ∧ W.cell? ⟨cl, 3, none⟩ = some (.slice Y6 s4.length y6) ∧ W.cell? ⟨ct, 0, none⟩ = some (.bool n5) ∧ W.cell? ⟨ct, 1, none⟩ = some (.slice X7 s5.length x7) ∧ W.cell? ⟨ct, 2, none⟩ = some (.bool n6) ∧ W.cell? ⟨ct, 3, none⟩ = some (.slice Y7 s6.length y7)) := fun W h => by
        obtain ⟨k0a, k0b, k0c, k0d⟩ := (hbx.out _ (hS.trans (hQ.trans h))).four
        obtain ⟨la, lb, lc, ld⟩ := (gl.since (hQ.trans h)).four
        obtain ⟨ta, tb, tc, td⟩ := (gt.since (hQ.trans h)).four
        exact ⟨k0a, k0b, k0c, k0d, la, lb, lc, ld, ta, tb, tc, td⟩
      have hr0 : Since we we.drew := Since.drew (Since.refl we)
      have r9 := r9.since hr0
      have r10 := r10.since hr0
      refine wp_region_noPanic ?_
      refine Reg.wp_region_G (S := fun W => W.cell? ⟨w.heap.size, 0, none⟩ = some (.bool b0) ∧ W.cell? ⟨w.heap.size, 1, none⟩ = some (.slice a0 p0.length cap0) ∧ W.cell? ⟨w.heap.size, 2, none⟩ = some (.bool sg0) ∧ W.cell? ⟨w.heap.size, 3, none⟩ = some (.slice ad0 q0.length cp0) ∧ W.cell? ⟨cl, 0, none⟩ = some (.bool n3) ∧ W.cell? ⟨cl, 1, none⟩ = some (.slice X6 s3.length x6) ∧ W.cell? ⟨cl, 2, none⟩ = some (.bool n4) ∧ W.cell? ⟨cl, 3, none⟩ = some (.slice Y6 s4.length y6) ∧ W.cell? ⟨ct, 0, none⟩ = some (.bool n5) ∧ W.cell? ⟨ct, 1, none⟩ = some (.slice X7 s5.length x7) ∧ W.cell? ⟨ct, 2, none⟩ = some (.bool n6) ∧ W.cell? ⟨ct, 3, none⟩ = some (.slice Y7 s6.length y7)) (fun j => [].contains j) (by kernel_rfl) ?_ ?_
      · exact hall.out _ hr0
      refine' Reg.wpG_take (i := 0) (oi := { dst := some 112, op := Op.load 26 (Operand.tmp 1), type := 26, pos := "law.go:164", after := #[], guard := none }) (v := _) [1, 3, 4, 5, 6, 7, 8] [] rfl rfl (by kernel_rfl) (by kernel_rfl) (by kernel_rfl) (by kernel_rfl) (by kernel_rfl) (by kernel_rfl) (by kernel_rfl) (fun _ _ _ h => h) (Or.inl ⟨by rfl, Or.inl ?hy36⟩) ?rest36
      case hy36 => (intro w' kk ss; (try dsimp only at ss); go_simp; first | done | with_reducible rfl)
      try simp only [Act.put, List.setIfInBounds_toArray, List.set_cons_zero, List.set_cons_succ]
      refine Reg.wpG_take (i := 1) (oi := { dst := some 113, op := Op.call { callee := Callee.value (Operand.func 12), args := #[Operand.tmp 112], argTypes := #[26] }, type := 31, pos := "law.go:164", after := #[{ on := 0, ground := Ground.data }], guard := none }) (v := .agg #[.bool b0, .slice a0 p0.length cap0, .bool sg0, .slice ad0 q0.length cp0]) [3, 4, 5, 6, 7, 8] [] rfl rfl (by kernel_rfl) (by kernel_rfl) (by kernel_rfl) (by kernel_rfl) (by kernel_rfl) (by kernel_rfl) (by kernel_rfl) (fun _ _ _ h => h) (Or.inl ⟨by rfl, Or.inr ⟨12, #[.agg #[.bool b0, .slice a0 p0.length cap0, .bool sg0, .slice ad0 q0.length cp0]], fun w' kk ss => ⟨?_, ?_⟩⟩⟩) ?_
      · (try dsimp only at ss); go_simp
      · exact (Law04.theirs_any a0 ad0 p0.length cap0 q0.length cp0 b0 sg0 w').mono fun e w'' h => ⟨h.1, h.2, hall.out _ (hr0.trans (kk.trans h.2))⟩
      try simp only [Act.put, List.setIfInBounds_toArray, List.set_cons_zero, List.set_cons_succ]
      refine' Reg.wpG_take (i := 2) (oi := { dst := some 114, op := Op.load 31 (Operand.tmp 15), type := 31, pos := "law.go:164", after := #[], guard := none }) (v := _) [3, 4, 5, 6, 7, 8] [] rfl rfl (by kernel_rfl) (by kernel_rfl) (by kernel_rfl) (by kernel_rfl) (by kernel_rfl) (by kernel_rfl) (by kernel_rfl) (fun _ _ _ h => h) (Or.inl ⟨by rfl, Or.inl ?hy37⟩) ?rest37
      case hy37 => (intro w' kk ss; (try dsimp only at ss); go_simp; first | done | with_reducible rfl)
      try simp only [Act.put, List.setIfInBounds_toArray, List.set_cons_zero, List.set_cons_succ]
      refine Reg.wpG_take (i := 3) (oi := { dst := some 115, op := Op.call { callee := Callee.value (Operand.func 16), args := #[Operand.tmp 113, Operand.tmp 114], argTypes := #[31, 31] }, type := 40, pos := "law.go:164", after := #[{ on := 1, ground := Ground.data }, { on := 2, ground := Ground.data }, { on := 1, ground := Ground.chain }], guard := none }) (v := .tuple #[.int .i64 d, .int .i64 0]) [4, 5, 6, 7, 8] [] rfl rfl (by kernel_rfl) (by kernel_rfl) (by kernel_rfl) (by kernel_rfl) (by kernel_rfl) (by kernel_rfl) (by kernel_rfl) (fun _ _ _ h => h) (Or.inl ⟨by rfl, Or.inr ⟨16, #[.agg #[.bool b0, .slice a0 p0.length cap0, .bool sg0, .slice ad0 q0.length cp0], .agg #[.bool n5, .slice X7 s5.length x7, .bool n6, .slice Y7 s6.length y7]], fun w' kk ss => ⟨?_, ?_⟩⟩⟩) ?_
      · (try dsimp only at ss); go_simp
      · exact (cmp_val (ns := Sr04.cmp_any a0 ad0 X7 Y7 cap0 cp0 x7 y7 b0 sg0 n5 n6 p0 q0 s5 s6 w' (P0.out.since (hS0.trans (hS.trans (hQ.trans (hr0.trans kk))))) (Q0.out.since (hS0.trans (hS.trans (hQ.trans (hr0.trans kk))))) (r9.since kk) (r10.since kk) (by have := FW.out; omega) (by have := FW.out; omega) (by have := LT.out; omega) (by have := LT.out; omega)) E9.out).mono fun e w'' h => ⟨h.1, h.2, hall.out _ (hr0.trans (kk.trans h.2))⟩
      try simp only [Act.put, List.setIfInBounds_toArray, List.set_cons_zero, List.set_cons_succ]
      refine' Reg.wpG_take (i := 4) (oi := { dst := some 111, op := Op.move (Operand.tmp 115), type := 40, pos := "law.go:164", after := #[{ on := 3, ground := Ground.data }], guard := none }) (v := _) [5, 6, 7, 8] [] rfl rfl (by kernel_rfl) (by kernel_rfl) (by kernel_rfl) (by kernel_rfl) (by kernel_rfl) (by kernel_rfl) (by kernel_rfl) (fun _ _ _ h => h) (Or.inl ⟨by rfl, Or.inl ?hy38⟩) ?rest38
      case hy38 => (intro w' kk ss; (try dsimp only at ss); go_simp; first | done | with_reducible rfl)
      try simp only [Act.put, List.setIfInBounds_toArray, List.set_cons_zero, List.set_cons_succ]
      refine' Reg.wpG_take (i := 5) (oi := { dst := some 116, op := Op.extract (Operand.tmp 111) 0, type := 3, pos := "law.go:164", after := #[{ on := 4, ground := Ground.data }], guard := none }) (v := _) [7, 8] [] rfl rfl (by kernel_rfl) (by kernel_rfl) (by kernel_rfl) (by kernel_rfl) (by kernel_rfl) (by kernel_rfl) (by kernel_rfl) (fun _ _ _ h => h) (Or.inl ⟨by rfl, Or.inl ?hy39⟩) ?rest39
      case hy39 => (intro w' kk ss; (try dsimp only at ss); go_simp; first | done | with_reducible rfl)
      try simp only [Act.put, List.setIfInBounds_toArray, List.set_cons_zero, List.set_cons_succ]
      refine' Reg.wpG_take (i := 6) (oi := { dst := some 117, op := Op.extract (Operand.tmp 111) 1, type := 32, pos := "law.go:164", after := #[{ on := 4, ground := Ground.data }, { on := 7, ground := Ground.gcOnly Departure.lateStores }], guard := none }) (v := _) [8] [] rfl rfl (by kernel_rfl) (by kernel_rfl) (by kernel_rfl) (by kernel_rfl) (by kernel_rfl) (by kernel_rfl) (by kernel_rfl) (fun _ _ _ h => h) (Or.inl ⟨by rfl, Or.inl ?hy40⟩) ?rest40
      case hy40 => (intro w' kk ss; (try dsimp only at ss); go_simp; first | done | with_reducible rfl)
      try simp only [Act.put, List.setIfInBounds_toArray, List.set_cons_zero, List.set_cons_succ]
      refine' Reg.wpG_take (i := 7) (oi := { dst := some 19, op := Op.assign (Operand.tmp 116), type := 3, pos := "law.go:164", after := #[{ on := 5, ground := Ground.data }, { on := 3, ground := Ground.chain }, { on := 0, ground := Ground.phase }, { on := 1, ground := Ground.phase }, { on := 2, ground := Ground.phase }, { on := 3, ground := Ground.phase }, { on := 4, ground := Ground.phase }, { on := 5, ground := Ground.phase }, { on := 6, ground := Ground.textOnly Departure.lateStores }], guard := none }) (v := _) [8] [] rfl rfl (by kernel_rfl) (by kernel_rfl) (by kernel_rfl) (by kernel_rfl) (by kernel_rfl) (by kernel_rfl) (by kernel_rfl) (fun _ _ _ h => h) (Or.inl ⟨by rfl, Or.inl ?hy41⟩) ?rest41
      case hy41 => (intro w' kk ss; (try dsimp only at ss); go_simp; first | done | with_reducible rfl)
      try simp only [Act.put, List.setIfInBounds_toArray, List.set_cons_zero, List.set_cons_succ]
      refine' Reg.wpG_take (i := 8) (oi := { dst := some 20, op := Op.assign (Operand.tmp 117), type := 32, pos := "law.go:164", after := #[{ on := 6, ground := Ground.data }, { on := 7, ground := Ground.chain }, { on := 0, ground := Ground.phase }, { on := 1, ground := Ground.phase }, { on := 2, ground := Ground.phase }, { on := 3, ground := Ground.phase }, { on := 4, ground := Ground.phase }, { on := 5, ground := Ground.phase }, { on := 6, ground := Ground.phase }, { on := 7, ground := Ground.phase }], guard := none }) (v := _) [] [] rfl rfl (by kernel_rfl) (by kernel_rfl) (by kernel_rfl) (by kernel_rfl) (by kernel_rfl) (by kernel_rfl) (by kernel_rfl) (fun _ _ _ h => h) (Or.inl ⟨by rfl, Or.inl ?hy42⟩) ?rest42
      case hy42 => (intro w' kk ss; (try dsimp only at ss); go_simp; first | done | with_reducible rfl)
      try simp only [Act.put, List.setIfInBounds_toArray, List.set_cons_zero, List.set_cons_succ]
      refine Reg.wpG_done (by kernel_rfl) (fun wf ke se => ?_) _
      refine NoPanic.normal ?_
      have hr0 := hr0.trans ke
      have r9 := r9.since ke
      have r10 := r10.since ke
      clear ke
      go_wp2_with fail
      go_ret
      exact ⟨rfl, hS0.trans (hS.trans (hQ.trans hr0))⟩

set_option maxRecDepth 100000 in
theorem lifted (os : Os) (started : os.Started) (H : Type) (enc : TypeId × Value → H) :
    ReturnsInHanded {} Tryz.checked os 8 .any (fun w args => (Rows.ratioBetweenSpec.pre enc Tryz.prog Tryz.f8 Rows.ratioBetweenRow.domain false w args ∧ laidMetH Tryz.prog Rows.ratioBetweenRow.laid w) ∧ sizedMet enc Tryz.prog Tryz.f8 (OpenSpec.ofChange Rows.ratioBetweenSpec) false w args) (Rows.ratioBetweenSpec.post enc Tryz.prog Tryz.f8 false true false false) := by
  refine returnsInHanded_of_change_and (C := Tryz.checked) (X := fun w _ => laidMetH Tryz.prog Rows.ratioBetweenRow.laid w) (fun _ _ _ hh h => h.of_heap hh) own started (by kernel_rfl) Tryz.func8
    (ChangeSpec.witness_shaped (enc := enc) (C := Tryz.checked) (os := os) (X := fun w _ => laidMetH Tryz.prog Rows.ratioBetweenRow.laid w) false (World.laidAll Tryz.prog os Rows.ratioBetweenRow.laid) #[.agg #[.bool false, .slice none 0 0, .bool false, .slice none 0 0]] 8 (World.laidAll_os _ _ _)
      (World.shaped_of_ZipB (by kernel_rfl) (by kernel_rfl)) (by kernel_rfl) (by kernel_rfl) (by kernel_rfl)
      (by rw [MakeChecks.laidMetH_plain _ _ _ (by kernel_rfl)]; exact laidMet_laidAll _ (by kernel_rfl) (by kernel_rfl))) ?_
  intro W base args ds gs before hval0 hW hcnd _ _ _
  have hval : ∀ (j : Nat) t v, Tryz.f8.params[j]? = some t → args[j]? = some v → Value.okWide Tryz.prog W .any base t v := hval0
  have hW' := hW
  obtain ⟨p, q, hA0, hV, rfl, hfz, hnd⟩ := hW
  have hA : DataW.TrodAll enc Tryz.prog W 0 (fun _ => true) true Tryz.f8.params.toList args.toList ds p := hA0
  rw [Tryz.params8] at hA hval
  obtain ⟨v0, vs0, d0, ds0, p0, q0, hargs, rfl, rfl, h0, r0⟩ := trodAll_cons hA
  obtain ⟨rfl, rfl, rfl⟩ := trodAll_nil r0
  obtain rfl : args = #[v0] := by cases args; simp_all
  obtain ⟨rfl, rfl⟩ := trodVars_none hV
  have k0 := h0
  have lt0 : ∀ x ∈ p0, x.block < W.heap.size := by obtain ⟨m, hm⟩ := k0; exact DataW.trod_lt m _ _ _ hm
  obtain ⟨cb0, cm0, ce0, cr0, yb0, ym0, ye0, yr0, nn0, mm0, rfl, hb0, hm0, he0, hr0⟩ := open_rat Tryz.underlying26 Tryz.underlying24 Tryz.underlying24 rfl rfl cells26 cells24 cells24 (by kernel_rfl) (hval 0 26 v0 rfl rfl) h0
  obtain ⟨b0, ebb0, xbb0⟩ := DataW.trod_bool Tryz.underlying4 hb0
  simp at ebb0
  subst ebb0
  obtain ⟨sg0, ebsg0, xbsg0⟩ := DataW.trod_bool Tryz.underlying4 he0
  simp at ebsg0
  subst ebsg0
  obtain ⟨a0, len0, cap0, em0⟩ := slice_form Tryz.underlying22 hm0
  simp at em0
  subst em0
  obtain ⟨ad0, ln0, cp0, er0⟩ := slice_form Tryz.underlying22 hr0
  simp at er0
  subst er0
  obtain ⟨z0, w0⟩ : ∃ zs, IsRow .u32 W a0 len0 cap0 zs := by
    have hf := hm0
    rcases open_ints Tryz.underlying22 Tryz.underlying88 (by kernel_rfl) hf with ⟨hcs, _⟩ | ⟨x, l, c, zs, hcs, _, hl, hm, hz, _, hcell, hwz⟩
    · simp [Value.cells] at hcs
      obtain ⟨rfl, rfl, rfl⟩ := hcs
      exact ⟨[], .inl ⟨rfl, rfl, rfl, rfl⟩⟩
    · simp [Value.cells] at hcs
      obtain ⟨rfl, rfl, rfl⟩ := hcs
      exact ⟨zs, .inr ⟨_, rfl, hl, hm, by simpa using hz, hcell, hwz⟩⟩
  obtain ⟨y0, u0⟩ : ∃ zs, IsRow .u32 W ad0 ln0 cp0 zs := by
    have hf := hr0
    rcases open_ints Tryz.underlying22 Tryz.underlying88 (by kernel_rfl) hf with ⟨hcs, _⟩ | ⟨x, l, c, zs, hcs, _, hl, hm, hz, _, hcell, hwz⟩
    · simp [Value.cells] at hcs
      obtain ⟨rfl, rfl, rfl⟩ := hcs
      exact ⟨[], .inl ⟨rfl, rfl, rfl, rfl⟩⟩
    · simp [Value.cells] at hcs
      obtain ⟨rfl, rfl, rfl⟩ := hcs
      exact ⟨zs, .inr ⟨_, rfl, hl, hm, by simpa using hz, hcell, hwz⟩⟩
  clear hA0 hval0
  refine (walk b0 a0 len0 cap0 sg0 ad0 ln0 cp0 z0 y0 W w0 u0).mono fun e W' ⟨he, bel⟩ => ?_
  subst he
  exact ⟨_, rfl, _, _, _, [], _, [], hW', trodAll_mk1 (shut_bool Tryz.underlying4 _), (trodAll_cons_mk (Below.trod laidOut (by kernel_rfl) (of_decide_eq_true (by kernel_rfl)) k0 bel lt0) trodAll_mk0), rfl, bel.frame _, fun h => by cases h⟩

theorem over : Rows.ratioBetweenRow.holds Tryz.pinned (OpenSpec.ofChange Rows.ratioBetweenSpec) :=
  OpenClaim.holds_of_wide 8 Tryz.f8 rfl rfl rfl rfl rfl rfl rfl ⟨rfl, rfl, rfl, rfl, rfl⟩ rfl rfl rfl rfl rfl (by kernel_rfl) Tryz.func8 (by kernel_rfl)
    (of_decide_eq_true (by kernel_rfl)) (by unfold Func.isWrapper; first | (rw [if_pos (by decide +kernel)]; kernel_rfl) | (rw [if_neg (by decide +kernel)]; exact ⟨rfl, rfl⟩))
    (fun os started H enc _ => lifted os started H enc)

/-- THE STATEMENT: the tied card -/
theorem proved : Rows.RatioBetweenCardSaid :=
  Claim7.holds_tied_plain_at .later [] _ _ _ _ over (fun _ h => by cases h) (by kernel_rfl) (fun _ h => by cases h) ratioBetween_row_tie rfl ⟨rfl, rfl⟩ (by kernel_rfl) rfl
    (fun f fn hf hfn => by
      obtain rfl : f = 8 := Option.some.inj ((show Tryz.prog.funcNamed "touchstone/touchstonelaw04.RatioBetween" = some 8 by kernel_rfl).symm.trans hf) |>.symm
      obtain rfl : fn = Tryz.f8 := (Option.some.inj (Tryz.func8.symm.trans hfn)).symm
      exact ⟨by kernel_rfl, fun j t ht => by
        rw [Tryz.params8] at ht
        have hm : t ∈ [26] := by simpa using Array.mem_of_getElem? ht
        have hall : ([26].all fun u => !Tryz.prog.wantsStandIn u) = true := by kernel_rfl
        exact (show Tryz.prog.wantsStandIn t = false by simpa using List.all_eq_true.1 hall t hm)⟩)
    (by kernel_rfl)
#print axioms proved
end Go.Proofs.YtbbemgeinlehmaaGreatDoor.ratioBetween
