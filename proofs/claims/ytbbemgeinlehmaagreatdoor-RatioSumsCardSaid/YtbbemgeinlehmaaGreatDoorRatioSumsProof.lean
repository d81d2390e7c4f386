/-
  For all fractions a and b of layer 4: the law RatioSums returns true (Add, Neg and Cmp answer as the document does, where all have at most 8 digits) and leaves both as they were. No condition.
-/
import Derived.Test.YtbbemgeinlehmaaGreatDoorRows
import Derived.Test.YtbbemgeinlehmaaGreatDoorCards
import Derived.Test.YtbbemgeinlehmaaGreatDoorTie
import Derived.LaidMore
import Derived.Lay
import Derived.SevenTiedAt
import Derived.WalkKit
import Derived.ProofKit
import Derived.OpenShut
import Derived.ShutString
import Derived.ChangeOld
import Derived.Below
import Derived.Lib.SmallJoins
import Derived.Test.YtbbemgeinlehmaaGreatDoorOpn
import Derived.Test.YtbbemgeinlehmaaGreatDoorL4a
import Derived.Test.YtbbemgeinlehmaaGreatDoorAl4
import Derived.Test.YtbbemgeinlehmaaGreatDoorSr4ad
import Derived.Test.YtbbemgeinlehmaaGreatDoorSr4ne
import Derived.Test.YtbbemgeinlehmaaGreatDoorSr4cm
import Derived.Test.YtbbemgeinlehmaaGreatDoorR4s
import Derived.Test.YtbbemgeinlehmaaGreatDoorR4e
import Derived.Test.YtbbemgeinlehmaaGreatDoorQc
import Derived.Test.YtbbemgeinlehmaaGreatDoorFw
import Derived.Test.YtbbemgeinlehmaaGreatDoorRg
import Derived.Deep.RegionHeld3
import Derived.Deep.DeepCutAuto
namespace Go.Proofs.YtbbemgeinlehmaaGreatDoor.ratioSums
open Go.Joins Go.Proofs.YtbbemgeinlehmaaGreatDoor
open Go.ChangeShapes Go.WideShapes Go.ChangeAt Go.RowKit
open Go.ChangeMaps (open_string shut_string)
open Go.Proofs.YtbbemgeinlehmaaGreatDoor.Dig Go.Proofs.YtbbemgeinlehmaaGreatDoor.R4 Go.Proofs.YtbbemgeinlehmaaGreatDoor.Fr Go.Proofs.YtbbemgeinlehmaaGreatDoor.Ref04
open Go.Proofs.YtbbemgeinlehmaaGreatDoor.Ref03 (sv)
set_option linter.unusedVariables false
set_option linter.unusedSimpArgs false

theorem cells26 : Tryz.prog.cellsOf 26 = 4 := by kernel_rfl
theorem cells24 : Tryz.prog.cellsOf 24 = 2 := by kernel_rfl
theorem own : ownKnob Tryz.prog.godebug = none := by kernel_rfl
theorem laidOut : laidOutB Tryz.prog = true := by kernel_rfl

/-- WHAT THE WALK IS TOLD OF A SLICE OF INTEGERS THAT CAME IN: it is nil; or it leads to a row of 'cap' cells, the numbers 'zs' (the first 'len' are its elements, the rest its spare room), each fitting its kind. -/
def IsRow (k : IntKind) (w : World) (a : Option Addr) (len cap : Nat) (zs : List Int) : Prop :=
  (a = none ∧ len = 0 ∧ cap = 0 ∧ zs = []) ∨
  ∃ x, a = some x ∧ len ≤ cap ∧ cap ≤ maxLen ∧ zs.length = cap ∧ (∀ i, i < zs.length → w.cell? (x.add i) = some (.int k (zs.getD i 0))) ∧ ∀ n ∈ zs, (Lit.int k n).wf = true

theorem cmp_val {P : Program} {f : FuncId} {args : Array Value} {w : World} {r : Int × Int} {c e : Int} (ns : Calls P f args w fun x w' => x = .returned (.tuple #[.int .i64 r.1, .int .i64 r.2]) ∧ Since w w') (h : r = (c, e)) :
    Calls P f args w fun x w' => x = .returned (.tuple #[.int .i64 c, .int .i64 e]) ∧ Since w w' := by
  subst h; exact ns
theorem same_yes (A0 A1 A2 A3 : Option Addr) (c0 c1 c2 c3 : Nat) (na nb : Bool) (xs ys : List Nat) (w : World) (hx : Row w (.slice A0 xs.length c0) xs) (hy : Row w (.slice A1 ys.length c1) ys) (hu : Row w (.slice A2 xs.length c2) xs) (hv : Row w (.slice A3 ys.length c3) ys) (lx : xs.length ≤ 10000) (ly : ys.length ≤ 10000) :
    Calls Tryz.prog 18 #[.agg #[.bool na, .slice A0 xs.length c0, .bool nb, .slice A1 ys.length c1], .agg #[.bool na, .slice A2 xs.length c2, .bool nb, .slice A3 ys.length c3]] w fun e w' => e = .returned (.bool true) ∧ Since w w' := by
  have k := Ref04.same_any A0 A1 A2 A3 c0 c1 c2 c3 na nb na nb xs ys xs ys w hx hy hu hv lx ly lx ly
  rwa [sameF_self] at k

set_option maxRecDepth 100000 in
set_option maxHeartbeats 4000000 in
theorem walk (b0 : Bool) (a0 : Option Addr) (len0 cap0 : Nat) (sg0 : Bool) (ad0 : Option Addr) (ln0 cp0 : Nat) (z0 y0 : List Int) (b1 : Bool) (a1 : Option Addr) (len1 cap1 : Nat) (sg1 : Bool) (ad1 : Option Addr) (ln1 cp1 : Nat) (z1 y1 : List Int) (w : World) (w0 : IsRow .u32 w a0 len0 cap0 z0) (u0 : IsRow .u32 w ad0 ln0 cp0 y0) (w1 : IsRow .u32 w a1 len1 cap1 z1) (u1 : IsRow .u32 w ad1 ln1 cp1 y1) :
    Calls Tryz.prog 3 #[.agg #[.bool b0, .slice a0 len0 cap0, .bool sg0, .slice ad0 ln0 cp0], .agg #[.bool b1, .slice a1 len1 cap1, .bool sg1, .slice ad1 ln1 cp1]] w fun e w' => e = .returned (.bool true) ∧ Since w w' := by
  obtain ⟨p0, hl0, hr0⟩ := row_in w0
  have P0 := Lib.hid hr0
  obtain ⟨q0, hm0, hs0⟩ := row_in u0
  have Q0 := Lib.hid hs0
  obtain ⟨p1, hl1, hr1⟩ := row_in w1
  have P1 := Lib.hid hr1
  obtain ⟨q1, hm1, hs1⟩ := row_in u1
  have Q1 := Lib.hid hs1
  clear w0 u0 hr0 hs0 w1 u1 hr1 hs1
  subst hl0 hm0 hl1 hm1
  obtain ⟨W0, hW0⟩ : ∃ W0, W0 = (w.alloc (.cells #[.bool b0, .slice a0 p0.length cap0, .bool sg0, .slice ad0 q0.length cp0] 26)).alloc (.cells #[.bool b1, .slice a1 p1.length cap1, .bool sg1, .slice ad1 q1.length cp1] 26) := ⟨_, rfl⟩
  have HW := Lib.hid hW0
  have hS0 : Since w W0 := by rw [hW0]; exact ((Since.refl w).alloc _).alloc _
  have hbx : Hid (∀ W : World, Since W0 W → Bx W (w.heap.size) #[.bool b0, .slice a0 p0.length cap0, .bool sg0, .slice ad0 q0.length cp0] 26 ∧ Bx W (w.heap.size + 1) #[.bool b1, .slice a1 p1.length cap1, .bool sg1, .slice ad1 q1.length cp1] 26) := fun W h => ⟨Bx.new ((since_alloc _ _).trans (hW0 ▸ h)) (by simp), Bx.new (hW0 ▸ h) (by simp)⟩
  clear hW0
  have hK := Since.refl W0
  by_cases g : (Law04.few1 ⟨b0, a0, cap0, p0, sg0, ad0, cp0, q0⟩ && (Law04.few1 ⟨b1, a1, cap1, p1, sg1, ad1, cp1, q1⟩)) = true
  rotate_left
  · have HF := Lib.hid (show (Law04.few1 ⟨b0, a0, cap0, p0, sg0, ad0, cp0, q0⟩ && (Law04.few1 ⟨b1, a1, cap1, p1, sg1, ad1, cp1, q1⟩)) = false by simpa using g)
    clear g
    go_enter Tryz.func3, Tryz.ntmps3
    go_wp2_with fail
    rw [← HW.out]
    obtain ⟨B0, B1⟩ := hbx.out _ hK; obtain ⟨k0a, k0b, k0c, k0d⟩ := B0.four; obtain ⟨k1a, k1b, k1c, k1d⟩ := B1.four
    go_wp2_with (first
      | (go_at_call 9; (with_reducible refine (Alive04.alive _).mono ?_); rintro e v0 ⟨rfl, h⟩; have hK := hK.trans h; obtain ⟨B0, B1⟩ := hbx.out _ hK; obtain ⟨k0a, k0b, k0c, k0d⟩ := B0.four; obtain ⟨k1a, k1b, k1c, k1d⟩ := B1.four)
      | (go_at_call 10; (with_reducible refine (Law04.few_two _ _ ⟨b0, a0, cap0, p0, sg0, ad0, cp0, q0⟩ ⟨b1, a1, cap1, p1, sg1, ad1, cp1, q1⟩).mono ?_); rw [HF.out]; rintro e vf ⟨rfl, h⟩; have hK := hK.trans h; obtain ⟨B0, B1⟩ := hbx.out _ hK; obtain ⟨k0a, k0b, k0c, k0d⟩ := B0.four; obtain ⟨k1a, k1b, k1c, k1d⟩ := B1.four))
    go_ret
    exact ⟨rfl, hS0.trans hK⟩
  have HF := Lib.hid g
  have FW := Lib.hid (show p0.length ≤ 8 ∧ q0.length ≤ 8 ∧ p1.length ≤ 8 ∧ q1.length ≤ 8 by simpa [Law04.few1, and_assoc] using g)
  clear g
  obtain ⟨n1, s1, n2, s2, e1, E1⟩ := parts5 (addR ((b0, p0), (sg0, q0)) ((b1, p1), (sg1, q1)))
  have E1 := Lib.hid E1
  obtain ⟨n3, s3, n4, s4, e3, E3⟩ := parts5 (negR ((b0, p0), (sg0, q0)))
  have E3 := Lib.hid E3
  obtain ⟨⟨c5, e5⟩, E5⟩ : ∃ r, cmpR ((b0, p0), (sg0, q0)) ((b1, p1), (sg1, q1)) = r := ⟨_, rfl⟩
  have E5 := Lib.hid E5
  have LA := Lib.hid (show s1.length ≤ 64 ∧ s2.length ≤ 64 from fz_len (addR_len _ _) E1.out)
  have LB := Lib.hid (show s3.length ≤ 64 ∧ s4.length ≤ 64 from fz_len (negR_len P0.out.dig Q0.out.dig) E3.out)
  go_enter Tryz.func3, Tryz.ntmps3
  go_wp2_with fail
  rw [← HW.out]
  obtain ⟨B0, B1⟩ := hbx.out _ hK; obtain ⟨k0a, k0b, k0c, k0d⟩ := B0.four; obtain ⟨k1a, k1b, k1c, k1d⟩ := B1.four
  go_upto_region 5 with (first
    | (go_at_call 9; (with_reducible refine (Alive04.alive _).mono ?_); rintro e v0 ⟨rfl, h⟩; have hK := hK.trans h; obtain ⟨B0, B1⟩ := hbx.out _ hK; obtain ⟨k0a, k0b, k0c, k0d⟩ := B0.four; obtain ⟨k1a, k1b, k1c, k1d⟩ := B1.four)
    | (go_at_call 10; (with_reducible refine (Law04.few_two _ _ ⟨b0, a0, cap0, p0, sg0, ad0, cp0, q0⟩ ⟨b1, a1, cap1, p1, sg1, ad1, cp1, q1⟩).mono ?_); rw [HF.out]; rintro e vf ⟨rfl, h⟩; have hK := hK.trans h; obtain ⟨B0, B1⟩ := hbx.out _ hK; obtain ⟨k0a, k0b, k0c, k0d⟩ := B0.four; obtain ⟨k1a, k1b, k1c, k1d⟩ := B1.four))
  have hZ := hK
  have hall : Hid (∀ W : World, Since vf W → W.cell? ⟨w.heap.size, 0, none⟩ = some (.bool b0) ∧ W.cell? ⟨w.heap.size, 1, none⟩ = some (.slice a0 p0.length cap0) ∧ W.cell? ⟨w.heap.size, 2, none⟩ = some (.bool sg0) ∧ W.cell? ⟨w.heap.size, 3, none⟩ = some (.slice ad0 q0.length cp0) ∧ W.cell? ⟨w.heap.size + 1, 0, none⟩ = some (.bool b1) ∧ W.cell? ⟨w.heap.size + 1, 1, none⟩ = some (.slice a1 p1.length cap1) ∧ W.cell? ⟨w.heap.size + 1, 2, none⟩ = some (.bool sg1) ∧ W.cell? ⟨w.heap.size + 1, 3, none⟩ = some (.slice ad1 q1.length cp1)) := fun W h => by
    obtain ⟨B0, B1⟩ := hbx.out _ (hZ.trans h)
    obtain ⟨k0a, k0b, k0c, k0d⟩ := B0.four
    obtain ⟨k1a, k1b, k1c, k1d⟩ := B1.four
    exact ⟨k0a, k0b, k0c, k0d, k1a, k1b, k1c, k1d⟩
  go_cut [5, 6] (fun pP pE W => ∃ (c0 : Nat) (X1 : Option Addr) (x1 : Nat) (Y1 : Option Addr) (y1 : Nat), pP = .pointer (some ⟨c0, 0, none⟩) ∧ pE = .int .i64 e1 ∧ Since vf W ∧ Bx W c0 #[.bool n1, .slice X1 s1.length x1, .bool n2, .slice Y1 s2.length y1] 31 ∧ Row W (.slice X1 s1.length x1) s1 ∧ Row W (.slice Y1 s2.length y1) s2)
  case first =>
    have hr0 : Since vf vf.drew := Since.drew (Since.refl vf)
    refine wp_region_noPanic ?_
    refine Reg.wp_region_G (S := fun W => W.cell? ⟨w.heap.size, 0, none⟩ = some (.bool b0) ∧ W.cell? ⟨w.heap.size, 1, none⟩ = some (.slice a0 p0.length cap0) ∧ W.cell? ⟨w.heap.size, 2, none⟩ = some (.bool sg0) ∧ W.cell? ⟨w.heap.size, 3, none⟩ = some (.slice ad0 q0.length cp0) ∧ W.cell? ⟨w.heap.size + 1, 0, none⟩ = some (.bool b1) ∧ W.cell? ⟨w.heap.size + 1, 1, none⟩ = some (.slice a1 p1.length cap1) ∧ W.cell? ⟨w.heap.size + 1, 2, none⟩ = some (.bool sg1) ∧ W.cell? ⟨w.heap.size + 1, 3, none⟩ = some (.slice ad1 q1.length cp1)) (fun j => [4, 5, 6, 7, 9, 10].contains j) (by kernel_rfl) ?_ ?_
    · exact hall.out _ hr0
    refine' Reg.wpG_take (i := 0) (oi := { dst := some 25, op := Op.load 26 (Operand.tmp 2), type := 26, pos := "law.go:66", after := #[], guard := none }) (v := _) [1, 3, 4, 5, 6, 7, 9, 10] [4, 5, 6, 7, 9, 10] rfl rfl (by kernel_rfl) (by kernel_rfl) (by kernel_rfl) (by kernel_rfl) (by kernel_rfl) (by kernel_rfl) (by kernel_rfl) (fun _ _ _ h => h) (Or.inl ⟨by rfl, Or.inl ?hy1⟩) ?rest1
    case hy1 => (intro w' kk ss; (try dsimp only at ss); go_simp; first | done | with_reducible rfl)
    try simp only [Act.put, List.setIfInBounds_toArray, List.set_cons_zero, List.set_cons_succ]
    refine Reg.wpG_take (i := 1) (oi := { dst := some 26, op := Op.call { callee := Callee.value (Operand.func 12), args := #[Operand.tmp 25], argTypes := #[26] }, type := 31, pos := "law.go:66", after := #[{ on := 0, ground := Ground.data }], guard := none }) (v := .agg #[.bool b0, .slice a0 p0.length cap0, .bool sg0, .slice ad0 q0.length cp0]) [3, 4, 5, 6, 7, 9, 10] [4, 5, 6, 7, 9, 10] rfl rfl (by kernel_rfl) (by kernel_rfl) (by kernel_rfl) (by kernel_rfl) (by kernel_rfl) (by kernel_rfl) (by kernel_rfl) (fun _ _ _ h => h) (Or.inl ⟨by rfl, Or.inr ⟨12, #[.agg #[.bool b0, .slice a0 p0.length cap0, .bool sg0, .slice ad0 q0.length cp0]], fun w' kk ss => ⟨?_, ?_⟩⟩⟩) ?_
    · (try dsimp only at ss); go_simp
    · exact (Law04.theirs_any a0 ad0 p0.length cap0 q0.length cp0 b0 sg0 w').mono fun e w'' h => ⟨h.1, h.2, hall.out _ (hr0.trans (kk.trans h.2))⟩
    try simp only [Act.put, List.setIfInBounds_toArray, List.set_cons_zero, List.set_cons_succ]
    refine' Reg.wpG_take (i := 2) (oi := { dst := some 27, op := Op.load 26 (Operand.tmp 3), type := 26, pos := "law.go:66", after := #[], guard := none }) (v := _) [3, 4, 5, 6, 7, 9, 10] [4, 5, 6, 7, 9, 10] rfl rfl (by kernel_rfl) (by kernel_rfl) (by kernel_rfl) (by kernel_rfl) (by kernel_rfl) (by kernel_rfl) (by kernel_rfl) (fun _ _ _ h => h) (Or.inl ⟨by rfl, Or.inl ?hy2⟩) ?rest2
    case hy2 => (intro w' kk ss; (try dsimp only at ss); go_simp; first | done | with_reducible rfl)
    try simp only [Act.put, List.setIfInBounds_toArray, List.set_cons_zero, List.set_cons_succ]
    refine Reg.wpG_take (i := 3) (oi := { dst := some 28, op := Op.call { callee := Callee.value (Operand.func 12), args := #[Operand.tmp 27], argTypes := #[26] }, type := 31, pos := "law.go:66", after := #[{ on := 2, ground := Ground.data }, { on := 1, ground := Ground.chain }], guard := none }) (v := .agg #[.bool b1, .slice a1 p1.length cap1, .bool sg1, .slice ad1 q1.length cp1]) [4, 5, 6, 7, 9, 10] [4, 5, 6, 7, 9, 10] rfl rfl (by kernel_rfl) (by kernel_rfl) (by kernel_rfl) (by kernel_rfl) (by kernel_rfl) (by kernel_rfl) (by kernel_rfl) (fun _ _ _ h => h) (Or.inl ⟨by rfl, Or.inr ⟨12, #[.agg #[.bool b1, .slice a1 p1.length cap1, .bool sg1, .slice ad1 q1.length cp1]], fun w' kk ss => ⟨?_, ?_⟩⟩⟩) ?_
    · (try dsimp only at ss); go_simp
    · exact (Law04.theirs_any a1 ad1 p1.length cap1 q1.length cp1 b1 sg1 w').mono fun e w'' h => ⟨h.1, h.2, hall.out _ (hr0.trans (kk.trans h.2))⟩
    try simp only [Act.put, List.setIfInBounds_toArray, List.set_cons_zero, List.set_cons_succ]
    refine Reg.wpG_ready (rs := [4, 8]) (by kernel_rfl) (by simp) (fun wq1 k1' sq1 => ?_)
    have hr0 := hr0.trans k1'
    have hb : vf.heap.size ≤ wq1.heap.size := hr0.size
    refine Reg.AllG.last (o := { dst := some 29, op := Op.call { callee := Callee.value (Operand.func 11), args := #[Operand.tmp 26, Operand.tmp 28], argTypes := #[31, 31] }, type := 33, pos := "law.go:66", after := #[{ on := 1, ground := Ground.data }, { on := 3, ground := Ground.data }, { on := 3, ground := Ground.chain }], guard := none }) rfl (by rfl) (fun K hK => ?_) (Reg.AllG.first (o := { dst := some 5, op := Op.alloc 31, type := 0, pos := "law.go:66", after := #[], guard := none }) rfl (by rfl) (fun K hK => ?_) Reg.AllG.nil)
    · go_simp
      (with_reducible refine ((Sr04.add_any a0 ad0 a1 ad1 cap0 cp0 cap1 cp1 b0 sg0 b1 sg1 p0 q0 p1 q1 wq1 (P0.out.since (hS0.trans (hZ.trans hr0))) (Q0.out.since (hS0.trans (hZ.trans hr0))) (P1.out.since (hS0.trans (hZ.trans hr0))) (Q1.out.since (hS0.trans (hZ.trans hr0))) (by have := FW.out; omega) (by have := FW.out; omega) (by have := FW.out; omega) (by have := FW.out; omega)).mono fun _ _ h => RetF.at E1.out h).mono ?_)
      rintro e y ⟨X1, x1, Y1, y1, rfl, r1, r2, hx⟩
      have hr0 := hr0.trans hx
      have hb : vf.heap.size ≤ y.heap.size := hr0.size
      refine hK.out _ _ ?_ (fun hHeld => ?_)
      · exact hall.out _ hr0
      clear hK K
      try simp only [Act.put, List.setIfInBounds_toArray, List.set_cons_zero, List.set_cons_succ]
      refine' wpAnyH_take (i := 5) (oi := { dst := some 24, op := Op.move (Operand.tmp 29), type := 33, pos := "law.go:66", after := #[{ on := 4, ground := Ground.data }], guard := none }) (v := _) rfl (by kernel_rfl) (by kernel_rfl) (by kernel_rfl) (fun _ _ _ h => h) (Or.inl ⟨by rfl, ?hy3⟩) (by assumption) ?rest3
      case hy3 => (intro w' ss; (try dsimp only at ss); go_simp; first | done | with_reducible rfl)
      try simp only [Act.put, List.setIfInBounds_toArray, List.set_cons_zero, List.set_cons_succ]
      refine' wpAnyH_take (i := 6) (oi := { dst := some 30, op := Op.extract (Operand.tmp 24) 0, type := 31, pos := "law.go:66", after := #[{ on := 5, ground := Ground.data }], guard := none }) (v := _) rfl (by kernel_rfl) (by kernel_rfl) (by kernel_rfl) (fun _ _ _ h => h) (Or.inl ⟨by rfl, ?hy4⟩) (by assumption) ?rest4
      case hy4 => (intro w' ss; (try dsimp only at ss); go_simp; first | done | with_reducible rfl)
      try simp only [Act.put, List.setIfInBounds_toArray, List.set_cons_zero, List.set_cons_succ]
      refine' wpAnyH_take (i := 7) (oi := { dst := some 31, op := Op.extract (Operand.tmp 24) 1, type := 32, pos := "law.go:66", after := #[{ on := 5, ground := Ground.data }, { on := 9, ground := Ground.gcOnly Departure.lateStores }], guard := none }) (v := _) rfl (by kernel_rfl) (by kernel_rfl) (by kernel_rfl) (fun _ _ _ h => h) (Or.inl ⟨by rfl, ?hy5⟩) (by assumption) ?rest5
      case hy5 => (intro w' ss; (try dsimp only at ss); go_simp; first | done | with_reducible rfl)
      try simp only [Act.put, List.setIfInBounds_toArray, List.set_cons_zero, List.set_cons_succ]
      refine wpAnyH_ready (rs := [8]) (by kernel_rfl) (by simp) ?_
      refine AllReadyH.cons (o := { dst := some 5, op := Op.alloc 31, type := 0, pos := "law.go:66", after := #[], guard := none }) rfl (fun K hK => ?_) AllReadyH.nil
      · go_simp
        refine hK.out _ _ ?_ (fun hHeld => ?_)
        · exact hall.out _ (hr0.trans (since_alloc _ _))
        clear hK K
        try simp only [Act.put, List.setIfInBounds_toArray, List.set_cons_zero, List.set_cons_succ]
        have gb := Bx.fresh y #[.bool false, .slice none 0 0, .bool false, .slice none 0 0] 31
        refine wpAnyH_ready (rs := [9]) (by kernel_rfl) (by simp) ?_
        refine AllReadyH.cons (o := { dst := none, op := Op.store 31 (Operand.tmp 5) (Operand.tmp 30), type := 0, pos := "law.go:66", after := #[{ on := 8, ground := Ground.data }, { on := 6, ground := Ground.data }, { on := 4, ground := Ground.chain }, { on := 0, ground := Ground.phase }, { on := 1, ground := Ground.phase }, { on := 2, ground := Ground.phase }, { on := 3, ground := Ground.phase }, { on := 4, ground := Ground.phase }, { on := 5, ground := Ground.phase }, { on := 6, ground := Ground.phase }, { on := 7, ground := Ground.textOnly Departure.lateStores }, { on := 8, ground := Ground.phase }], guard := none }) rfl (fun K hK => ?_) AllReadyH.nil
        · obtain ⟨gza, gzb, gzc, gzd⟩ := gb.four
          obtain ⟨fza, fzb, fzc, fzd⟩ := gb.four'
          go_simp
          refine hK.out _ _ ?_ (fun hHeld => ?_)
          · exact hall.out _ (hr0.trans (since_alloc _ _))
          clear hK K
          try simp only [Act.put, List.setIfInBounds_toArray, List.set_cons_zero, List.set_cons_succ]
          refine' wpAnyH_take (i := 10) (oi := { dst := some 6, op := Op.assign (Operand.tmp 31), type := 32, pos := "law.go:66", after := #[{ on := 7, ground := Ground.data }, { on := 9, ground := Ground.chain }, { on := 0, ground := Ground.phase }, { on := 1, ground := Ground.phase }, { on := 2, ground := Ground.phase }, { on := 3, ground := Ground.phase }, { on := 4, ground := Ground.phase }, { on := 5, ground := Ground.phase }, { on := 6, ground := Ground.phase }, { on := 7, ground := Ground.phase }, { on := 8, ground := Ground.phase }, { on := 9, ground := Ground.phase }], guard := none }) (v := _) rfl (by kernel_rfl) (by kernel_rfl) (by kernel_rfl) (fun _ _ _ h => h) (Or.inl ⟨by rfl, ?hy6⟩) (by assumption) ?rest6
          case hy6 => (intro w' ss; (try dsimp only at ss); go_simp; first | done | with_reducible rfl)
          try simp only [Act.put, List.setIfInBounds_toArray, List.set_cons_zero, List.set_cons_succ]
          refine wpAnyH_done (by kernel_rfl) ?_ _
          refine NoPanic.normal ?_
          go_wp2_with fail
          go_meet
          exact ⟨_, X1, x1, Y1, y1, rfl, rfl, hr0.trans (since_alloc _ _), Bx.fresh _ _ _, r1.since (since_alloc _ _), r2.since (since_alloc _ _)⟩
    · go_simp
      refine hK.out _ _ ?_ (since_alloc _ _) ?_
      · exact hall.out _ (hr0.trans (since_alloc _ _))
      clear hK K
      try simp only [Act.put, List.setIfInBounds_toArray, List.set_cons_zero, List.set_cons_succ]
      have gb := Bx.fresh wq1 #[.bool false, .slice none 0 0, .bool false, .slice none 0 0] 31
      have hr0 := hr0.trans (since_alloc wq1 (.cells #[.bool false, .slice none 0 0, .bool false, .slice none 0 0] 31))
      refine Reg.wpG_ready (rs := [4]) (by kernel_rfl) (by simp) (fun wq2 k2' sq2 => ?_)
      have hr0 := hr0.trans k2'
      have gb := gb.since k2'
      refine Reg.AllG.last (o := { dst := some 29, op := Op.call { callee := Callee.value (Operand.func 11), args := #[Operand.tmp 26, Operand.tmp 28], argTypes := #[31, 31] }, type := 33, pos := "law.go:66", after := #[{ on := 1, ground := Ground.data }, { on := 3, ground := Ground.data }, { on := 3, ground := Ground.chain }], guard := none }) rfl (by rfl) (fun K hK => ?_) Reg.AllG.nil
      go_simp
      (with_reducible refine ((Sr04.add_any a0 ad0 a1 ad1 cap0 cp0 cap1 cp1 b0 sg0 b1 sg1 p0 q0 p1 q1 wq2 (P0.out.since (hS0.trans (hZ.trans hr0))) (Q0.out.since (hS0.trans (hZ.trans hr0))) (P1.out.since (hS0.trans (hZ.trans hr0))) (Q1.out.since (hS0.trans (hZ.trans hr0))) (by have := FW.out; omega) (by have := FW.out; omega) (by have := FW.out; omega) (by have := FW.out; omega)).mono fun _ _ h => RetF.at E1.out h).mono ?_)
      rintro e y ⟨X1, x1, Y1, y1, rfl, r1, r2, hx⟩
      have hr0 := hr0.trans hx
      have gb := gb.since hx
      generalize wq1.heap.size = bq at *
      refine hK.out _ _ ?_ (fun hHeld => ?_)
      · exact hall.out _ hr0
      clear hK K
      try simp only [Act.put, List.setIfInBounds_toArray, List.set_cons_zero, List.set_cons_succ]
      refine' wpAnyH_take (i := 5) (oi := { dst := some 24, op := Op.move (Operand.tmp 29), type := 33, pos := "law.go:66", after := #[{ on := 4, ground := Ground.data }], guard := none }) (v := _) rfl (by kernel_rfl) (by kernel_rfl) (by kernel_rfl) (fun _ _ _ h => h) (Or.inl ⟨by rfl, ?hy7⟩) (by assumption) ?rest7
      case hy7 => (intro w' ss; (try dsimp only at ss); go_simp; first | done | with_reducible rfl)
      try simp only [Act.put, List.setIfInBounds_toArray, List.set_cons_zero, List.set_cons_succ]
      refine' wpAnyH_take (i := 6) (oi := { dst := some 30, op := Op.extract (Operand.tmp 24) 0, type := 31, pos := "law.go:66", after := #[{ on := 5, ground := Ground.data }], guard := none }) (v := _) rfl (by kernel_rfl) (by kernel_rfl) (by kernel_rfl) (fun _ _ _ h => h) (Or.inl ⟨by rfl, ?hy8⟩) (by assumption) ?rest8
      case hy8 => (intro w' ss; (try dsimp only at ss); go_simp; first | done | with_reducible rfl)
      try simp only [Act.put, List.setIfInBounds_toArray, List.set_cons_zero, List.set_cons_succ]
      refine' wpAnyH_take (i := 7) (oi := { dst := some 31, op := Op.extract (Operand.tmp 24) 1, type := 32, pos := "law.go:66", after := #[{ on := 5, ground := Ground.data }, { on := 9, ground := Ground.gcOnly Departure.lateStores }], guard := none }) (v := _) rfl (by kernel_rfl) (by kernel_rfl) (by kernel_rfl) (fun _ _ _ h => h) (Or.inl ⟨by rfl, ?hy9⟩) (by assumption) ?rest9
      case hy9 => (intro w' ss; (try dsimp only at ss); go_simp; first | done | with_reducible rfl)
      try simp only [Act.put, List.setIfInBounds_toArray, List.set_cons_zero, List.set_cons_succ]
      refine wpAnyH_ready (rs := [9]) (by kernel_rfl) (by simp) ?_
      refine AllReadyH.cons (o := { dst := none, op := Op.store 31 (Operand.tmp 5) (Operand.tmp 30), type := 0, pos := "law.go:66", after := #[{ on := 8, ground := Ground.data }, { on := 6, ground := Ground.data }, { on := 4, ground := Ground.chain }, { on := 0, ground := Ground.phase }, { on := 1, ground := Ground.phase }, { on := 2, ground := Ground.phase }, { on := 3, ground := Ground.phase }, { on := 4, ground := Ground.phase }, { on := 5, ground := Ground.phase }, { on := 6, ground := Ground.phase }, { on := 7, ground := Ground.textOnly Departure.lateStores }, { on := 8, ground := Ground.phase }], guard := none }) rfl (fun K hK => ?_) AllReadyH.nil
      · obtain ⟨gza, gzb, gzc, gzd⟩ := gb.four
        obtain ⟨fza, fzb, fzc, fzd⟩ := gb.four'
        go_simp
        refine hK.out _ _ ?_ (fun hHeld => ?_)
        · exact hall.out _ (since_put4 hr0 hb _ _ _ _)
        clear hK K
        try simp only [Act.put, List.setIfInBounds_toArray, List.set_cons_zero, List.set_cons_succ]
        refine' wpAnyH_take (i := 10) (oi := { dst := some 6, op := Op.assign (Operand.tmp 31), type := 32, pos := "law.go:66", after := #[{ on := 7, ground := Ground.data }, { on := 9, ground := Ground.chain }, { on := 0, ground := Ground.phase }, { on := 1, ground := Ground.phase }, { on := 2, ground := Ground.phase }, { on := 3, ground := Ground.phase }, { on := 4, ground := Ground.phase }, { on := 5, ground := Ground.phase }, { on := 6, ground := Ground.phase }, { on := 7, ground := Ground.phase }, { on := 8, ground := Ground.phase }, { on := 9, ground := Ground.phase }], guard := none }) (v := _) rfl (by kernel_rfl) (by kernel_rfl) (by kernel_rfl) (fun _ _ _ h => h) (Or.inl ⟨by rfl, ?hy10⟩) (by assumption) ?rest10
        case hy10 => (intro w' ss; (try dsimp only at ss); go_simp; first | done | with_reducible rfl)
        try simp only [Act.put, List.setIfInBounds_toArray, List.set_cons_zero, List.set_cons_succ]
        refine wpAnyH_done (by kernel_rfl) ?_ _
        refine NoPanic.normal ?_
        go_wp2_with fail
        go_meet
        exact ⟨_, X1, x1, Y1, y1, rfl, rfl, since_put4 hr0 hb _ _ _ _, gb.put4 _ _ _ _, gb.rowsR r1 (put4_far _ _ _ _ _ _), gb.rowsR r2 (put4_far _ _ _ _ _ _)⟩
  case rest =>
    obtain ⟨ca, X1, x1, Y1, y1, rfl, rfl, hc, ga, r1, r2⟩ := hcut
    have hS := hZ.trans hc
    have Va : Hid (∀ W', Since wc W' → Bx W' ca #[.bool n1, .slice X1 s1.length x1, .bool n2, .slice Y1 s2.length y1] 31) := fun W' h => ga.since h
    clear hc ga hall hZ
    have hK := Since.refl wc
    obtain ⟨B0, B1⟩ := hbx.out _ (hS.trans hK)
    obtain ⟨k0a, k0b, k0c, k0d⟩ := B0.four
    obtain ⟨k1a, k1b, k1c, k1d⟩ := B1.four
    go_upto_region 7 with (first
      | (go_at_call 13; (with_reducible refine ((Ref04.add_any a0 ad0 a1 ad1 cap0 cp0 cap1 cp1 b0 sg0 b1 sg1 p0 q0 p1 q1 _ (P0.out.since (hS0.trans (hS.trans hK))) (Q0.out.since (hS0.trans (hS.trans hK))) (P1.out.since (hS0.trans (hS.trans hK))) (Q1.out.since (hS0.trans (hS.trans hK))) (by have := FW.out; omega) (by have := FW.out; omega) (by have := FW.out; omega) (by have := FW.out; omega)).mono fun _ _ h => RetF.at E1.out h).mono ?_); rintro e v5 ⟨X2, x2, Y2, y2, rfl, r3, r4, h⟩; have hK := hK.trans h))
    obtain ⟨W6, hW6⟩ : ∃ W6, W6 = v5.alloc (.cells #[.bool n1, .slice X2 s1.length x2, .bool n2, .slice Y2 s2.length y2] 26) := ⟨_, rfl⟩
    rw [← hW6]
    have hx : Since v5 W6 := by rw [hW6]; exact since_alloc _ _
    have hg := hK.trans hx
    have qbW6 : w.heap.size + 1 < v5.heap.size := (hbx.out _ (hS.trans hK)).2.lt
    have qaW6 : ca < v5.heap.size := (Va.out _ hK).lt
    have Vy : Hid (∀ W', Since W6 W' → Bx W' (v5.heap.size) #[.bool n1, .slice X2 s1.length x2, .bool n2, .slice Y2 s2.length y2] 26) := fun W' h => Bx.new (hW6 ▸ h) (by simp)
    have r1 := r1.since hg
    have r2 := r2.since hg
    have r3 := r3.since hx
    have r4 := r4.since hx
    have Va : Hid (∀ W', Since W6 W' → _) := fun W' h => Va.out W' (hg.trans h)
    have hS := hS.trans hg
    clear hW6 hx hg hK
    generalize v5.heap.size = bkW6 at *
    have hK := Since.refl W6
    obtain ⟨B0, B1⟩ := hbx.out _ (hS.trans hK)
    obtain ⟨k0a, k0b, k0c, k0d⟩ := B0.four
    obtain ⟨k1a, k1b, k1c, k1d⟩ := B1.four
    go_upto_region 8 with (first
      | (go_at_call 12; (with_reducible refine (Law04.theirs_any a0 ad0 p0.length cap0 q0.length cp0 b0 sg0 _).mono ?_); rintro e t6 ⟨rfl, h⟩; have hK := hK.trans h)
      | (go_at_call 14; (with_reducible refine ((Sr04.neg_any a0 ad0 cap0 cp0 b0 sg0 p0 q0 _ (P0.out.since (hS0.trans (hS.trans hK))) (Q0.out.since (hS0.trans (hS.trans hK))) (by have := FW.out; omega) (by have := FW.out; omega)).mono fun _ _ h => RetF.at E3.out h).mono ?_); rintro e v7 ⟨X3, x3, Y3, y3, rfl, r5, r6, h⟩; have hK := hK.trans h))
    obtain ⟨W7, hW7⟩ : ∃ W7, W7 = v7.alloc (.cells #[.bool n3, .slice X3 s3.length x3, .bool n4, .slice Y3 s4.length y3] 31) := ⟨_, rfl⟩
    rw [← hW7]
    have hx : Since v7 W7 := by rw [hW7]; exact since_alloc _ _
    have hg := hK.trans hx
    have qbW7 : w.heap.size + 1 < v7.heap.size := (hbx.out _ (hS.trans hK)).2.lt
    have qaW7 : ca < v7.heap.size := (Va.out _ hK).lt
    have qyW7 : bkW6 < v7.heap.size := (Vy.out _ hK).lt
    have Vn : Hid (∀ W', Since W7 W' → Bx W' (v7.heap.size) #[.bool n3, .slice X3 s3.length x3, .bool n4, .slice Y3 s4.length y3] 31) := fun W' h => Bx.new (hW7 ▸ h) (by simp)
    have r1 := r1.since hg
    have r2 := r2.since hg
    have r3 := r3.since hg
    have r4 := r4.since hg
    have r5 := r5.since hx
    have r6 := r6.since hx
    have Va : Hid (∀ W', Since W7 W' → _) := fun W' h => Va.out W' (hg.trans h)
    have Vy : Hid (∀ W', Since W7 W' → _) := fun W' h => Vy.out W' (hg.trans h)
    have hS := hS.trans hg
    clear hW7 hx hg hK
    generalize v7.heap.size = bkW7 at *
    have hK := Since.refl W7
    obtain ⟨B0, B1⟩ := hbx.out _ (hS.trans hK)
    obtain ⟨k0a, k0b, k0c, k0d⟩ := B0.four
    obtain ⟨k1a, k1b, k1c, k1d⟩ := B1.four
    go_upto_region 9 with (first
      | (go_at_call 15; (with_reducible refine ((Ref04.neg_any a0 ad0 cap0 cp0 b0 sg0 p0 q0 _ (P0.out.since (hS0.trans (hS.trans hK))) (Q0.out.since (hS0.trans (hS.trans hK))) (by have := FW.out; omega) (by have := FW.out; omega)).mono fun _ _ h => RetF.at E3.out h).mono ?_); rintro e v8 ⟨X4, x4, Y4, y4, rfl, r7, r8, h⟩; have hK := hK.trans h))
    obtain ⟨W8, hW8⟩ : ∃ W8, W8 = v8.alloc (.cells #[.bool n3, .slice X4 s3.length x4, .bool n4, .slice Y4 s4.length y4] 26) := ⟨_, rfl⟩
    rw [← hW8]
    have hx : Since v8 W8 := by rw [hW8]; exact since_alloc _ _
    have hg := hK.trans hx
    have qbW8 : w.heap.size + 1 < v8.heap.size := (hbx.out _ (hS.trans hK)).2.lt
    have qaW8 : ca < v8.heap.size := (Va.out _ hK).lt
    have qyW8 : bkW6 < v8.heap.size := (Vy.out _ hK).lt
    have qnW8 : bkW7 < v8.heap.size := (Vn.out _ hK).lt
    have Vm : Hid (∀ W', Since W8 W' → Bx W' (v8.heap.size) #[.bool n3, .slice X4 s3.length x4, .bool n4, .slice Y4 s4.length y4] 26) := fun W' h => Bx.new (hW8 ▸ h) (by simp)
    have r1 := r1.since hg
    have r2 := r2.since hg
    have r3 := r3.since hg
    have r4 := r4.since hg
    have r5 := r5.since hg
    have r6 := r6.since hg
    have r7 := r7.since hx
    have r8 := r8.since hx
    have Va : Hid (∀ W', Since W8 W' → _) := fun W' h => Va.out W' (hg.trans h)
    have Vy : Hid (∀ W', Since W8 W' → _) := fun W' h => Vy.out W' (hg.trans h)
    have Vn : Hid (∀ W', Since W8 W' → _) := fun W' h => Vn.out W' (hg.trans h)
    have hS := hS.trans hg
    clear hW8 hx hg hK
    generalize v8.heap.size = bkW8 at *
    have hK := Since.refl W8
    have hall : Hid (∀ W : World, Since W8 W → W.cell? ⟨w.heap.size, 0, none⟩ = some (.bool b0) ∧ W.cell? ⟨w.heap.size, 1, none⟩ = some (.slice a0 p0.length cap0) ∧ W.cell? ⟨w.heap.size, 2, none⟩ = some (.bool sg0) ∧ W.cell? ⟨w.heap.size, 3, none⟩ = some (.slice ad0 q0.length cp0) ∧ W.cell? ⟨w.heap.size + 1, 0, none⟩ = some (.bool b1) ∧ W.cell? ⟨w.heap.size + 1, 1, none⟩ = some (.slice a1 p1.length cap1) ∧ W.cell? ⟨w.heap.size + 1, 2, none⟩ = some (.bool sg1) ∧ W.cell? ⟨w.heap.size + 1, 3, none⟩ = some (.slice ad1 q1.length cp1)) := fun W h => by
      obtain ⟨B0, B1⟩ := hbx.out _ (hS.trans h)
      obtain ⟨k0a, k0b, k0c, k0d⟩ := B0.four
      obtain ⟨k1a, k1b, k1c, k1d⟩ := B1.four
      exact ⟨k0a, k0b, k0c, k0d, k1a, k1b, k1c, k1d⟩
    have hr0 : Since W8 W8.drew := Since.drew (Since.refl W8)
    refine wp_region_noPanic ?_
    refine Reg.wp_region_G (S := fun W => W.cell? ⟨w.heap.size, 0, none⟩ = some (.bool b0) ∧ W.cell? ⟨w.heap.size, 1, none⟩ = some (.slice a0 p0.length cap0) ∧ W.cell? ⟨w.heap.size, 2, none⟩ = some (.bool sg0) ∧ W.cell? ⟨w.heap.size, 3, none⟩ = some (.slice ad0 q0.length cp0) ∧ W.cell? ⟨w.heap.size + 1, 0, none⟩ = some (.bool b1) ∧ W.cell? ⟨w.heap.size + 1, 1, none⟩ = some (.slice a1 p1.length cap1) ∧ W.cell? ⟨w.heap.size + 1, 2, none⟩ = some (.bool sg1) ∧ W.cell? ⟨w.heap.size + 1, 3, none⟩ = some (.slice ad1 q1.length cp1)) (fun j => [].contains j) (by kernel_rfl) ?_ ?_
    · exact hall.out _ hr0
    refine' Reg.wpG_take (i := 0) (oi := { dst := some 50, op := Op.load 26 (Operand.tmp 2), type := 26, pos := "law.go:70", after := #[], guard := none }) (v := _) [1, 3, 4, 5, 6, 7, 8, 9] [] rfl rfl (by kernel_rfl) (by kernel_rfl) (by kernel_rfl) (by kernel_rfl) (by kernel_rfl) (by kernel_rfl) (by kernel_rfl) (fun _ _ _ h => h) (Or.inl ⟨by rfl, Or.inl ?hy12⟩) ?rest12
    case hy12 => (intro w' kk ss; (try dsimp only at ss); go_simp; first | done | with_reducible rfl)
    try simp only [Act.put, List.setIfInBounds_toArray, List.set_cons_zero, List.set_cons_succ]
    refine Reg.wpG_take (i := 1) (oi := { dst := some 51, op := Op.call { callee := Callee.value (Operand.func 12), args := #[Operand.tmp 50], argTypes := #[26] }, type := 31, pos := "law.go:70", after := #[{ on := 0, ground := Ground.data }], guard := none }) (v := .agg #[.bool b0, .slice a0 p0.length cap0, .bool sg0, .slice ad0 q0.length cp0]) [3, 4, 5, 6, 7, 8, 9] [] rfl rfl (by kernel_rfl) (by kernel_rfl) (by kernel_rfl) (by kernel_rfl) (by kernel_rfl) (by kernel_rfl) (by kernel_rfl) (fun _ _ _ h => h) (Or.inl ⟨by rfl, Or.inr ⟨12, #[.agg #[.bool b0, .slice a0 p0.length cap0, .bool sg0, .slice ad0 q0.length cp0]], fun w' kk ss => ⟨?_, ?_⟩⟩⟩) ?_
    · (try dsimp only at ss); go_simp
    · exact (Law04.theirs_any a0 ad0 p0.length cap0 q0.length cp0 b0 sg0 w').mono fun e w'' h => ⟨h.1, h.2, hall.out _ (hr0.trans (kk.trans h.2))⟩
    try simp only [Act.put, List.setIfInBounds_toArray, List.set_cons_zero, List.set_cons_succ]
    refine' Reg.wpG_take (i := 2) (oi := { dst := some 52, op := Op.load 26 (Operand.tmp 3), type := 26, pos := "law.go:70", after := #[], guard := none }) (v := _) [3, 4, 5, 6, 7, 8, 9] [] rfl rfl (by kernel_rfl) (by kernel_rfl) (by kernel_rfl) (by kernel_rfl) (by kernel_rfl) (by kernel_rfl) (by kernel_rfl) (fun _ _ _ h => h) (Or.inl ⟨by rfl, Or.inl ?hy13⟩) ?rest13
    case hy13 => (intro w' kk ss; (try dsimp only at ss); go_simp; first | done | with_reducible rfl)
    try simp only [Act.put, List.setIfInBounds_toArray, List.set_cons_zero, List.set_cons_succ]
    refine Reg.wpG_take (i := 3) (oi := { dst := some 53, op := Op.call { callee := Callee.value (Operand.func 12), args := #[Operand.tmp 52], argTypes := #[26] }, type := 31, pos := "law.go:70", after := #[{ on := 2, ground := Ground.data }, { on := 1, ground := Ground.chain }], guard := none }) (v := .agg #[.bool b1, .slice a1 p1.length cap1, .bool sg1, .slice ad1 q1.length cp1]) [4, 5, 6, 7, 8, 9] [] rfl rfl (by kernel_rfl) (by kernel_rfl) (by kernel_rfl) (by kernel_rfl) (by kernel_rfl) (by kernel_rfl) (by kernel_rfl) (fun _ _ _ h => h) (Or.inl ⟨by rfl, Or.inr ⟨12, #[.agg #[.bool b1, .slice a1 p1.length cap1, .bool sg1, .slice ad1 q1.length cp1]], fun w' kk ss => ⟨?_, ?_⟩⟩⟩) ?_
    · (try dsimp only at ss); go_simp
    · exact (Law04.theirs_any a1 ad1 p1.length cap1 q1.length cp1 b1 sg1 w').mono fun e w'' h => ⟨h.1, h.2, hall.out _ (hr0.trans (kk.trans h.2))⟩
    try simp only [Act.put, List.setIfInBounds_toArray, List.set_cons_zero, List.set_cons_succ]
    refine Reg.wpG_take (i := 4) (oi := { dst := some 54, op := Op.call { callee := Callee.value (Operand.func 16), args := #[Operand.tmp 51, Operand.tmp 53], argTypes := #[31, 31] }, type := 40, pos := "law.go:70", after := #[{ on := 1, ground := Ground.data }, { on := 3, ground := Ground.data }, { on := 3, ground := Ground.chain }], guard := none }) (v := .tuple #[.int .i64 c5, .int .i64 e5]) [5, 6, 7, 8, 9] [] rfl rfl (by kernel_rfl) (by kernel_rfl) (by kernel_rfl) (by kernel_rfl) (by kernel_rfl) (by kernel_rfl) (by kernel_rfl) (fun _ _ _ h => h) (Or.inl ⟨by rfl, Or.inr ⟨16, #[.agg #[.bool b0, .slice a0 p0.length cap0, .bool sg0, .slice ad0 q0.length cp0], .agg #[.bool b1, .slice a1 p1.length cap1, .bool sg1, .slice ad1 q1.length cp1]], fun w' kk ss => ⟨?_, ?_⟩⟩⟩) ?_
    · (try dsimp only at ss); go_simp
    · exact (cmp_val (ns := Sr04.cmp_any a0 ad0 a1 ad1 cap0 cp0 cap1 cp1 b0 sg0 b1 sg1 p0 q0 p1 q1 w' (P0.out.since (hS0.trans (hS.trans (hr0.trans kk)))) (Q0.out.since (hS0.trans (hS.trans (hr0.trans kk)))) (P1.out.since (hS0.trans (hS.trans (hr0.trans kk)))) (Q1.out.since (hS0.trans (hS.trans (hr0.trans kk)))) (by have := FW.out; omega) (by have := FW.out; omega) (by have := FW.out; omega) (by have := FW.out; omega)) E5.out).mono fun e w'' h => ⟨h.1, h.2, hall.out _ (hr0.trans (kk.trans h.2))⟩
    try simp only [Act.put, List.setIfInBounds_toArray, List.set_cons_zero, List.set_cons_succ]
    refine' Reg.wpG_take (i := 5) (oi := { dst := some 49, op := Op.move (Operand.tmp 54), type := 40, pos := "law.go:70", after := #[{ on := 4, ground := Ground.data }], guard := none }) (v := _) [6, 7, 8, 9] [] rfl rfl (by kernel_rfl) (by kernel_rfl) (by kernel_rfl) (by kernel_rfl) (by kernel_rfl) (by kernel_rfl) (by kernel_rfl) (fun _ _ _ h => h) (Or.inl ⟨by rfl, Or.inl ?hy14⟩) ?rest14
    case hy14 => (intro w' kk ss; (try dsimp only at ss); go_simp; first | done | with_reducible rfl)
    try simp only [Act.put, List.setIfInBounds_toArray, List.set_cons_zero, List.set_cons_succ]
    refine' Reg.wpG_take (i := 6) (oi := { dst := some 55, op := Op.extract (Operand.tmp 49) 0, type := 3, pos := "law.go:70", after := #[{ on := 5, ground := Ground.data }], guard := none }) (v := _) [8, 9] [] rfl rfl (by kernel_rfl) (by kernel_rfl) (by kernel_rfl) (by kernel_rfl) (by kernel_rfl) (by kernel_rfl) (by kernel_rfl) (fun _ _ _ h => h) (Or.inl ⟨by rfl, Or.inl ?hy15⟩) ?rest15
    case hy15 => (intro w' kk ss; (try dsimp only at ss); go_simp; first | done | with_reducible rfl)
    try simp only [Act.put, List.setIfInBounds_toArray, List.set_cons_zero, List.set_cons_succ]
    refine' Reg.wpG_take (i := 7) (oi := { dst := some 56, op := Op.extract (Operand.tmp 49) 1, type := 32, pos := "law.go:70", after := #[{ on := 5, ground := Ground.data }, { on := 8, ground := Ground.gcOnly Departure.lateStores }], guard := none }) (v := _) [9] [] rfl rfl (by kernel_rfl) (by kernel_rfl) (by kernel_rfl) (by kernel_rfl) (by kernel_rfl) (by kernel_rfl) (by kernel_rfl) (fun _ _ _ h => h) (Or.inl ⟨by rfl, Or.inl ?hy16⟩) ?rest16
    case hy16 => (intro w' kk ss; (try dsimp only at ss); go_simp; first | done | with_reducible rfl)
    try simp only [Act.put, List.setIfInBounds_toArray, List.set_cons_zero, List.set_cons_succ]
    refine' Reg.wpG_take (i := 8) (oi := { dst := some 13, op := Op.assign (Operand.tmp 55), type := 3, pos := "law.go:70", after := #[{ on := 6, ground := Ground.data }, { on := 4, ground := Ground.chain }, { on := 0, ground := Ground.phase }, { on := 1, ground := Ground.phase }, { on := 2, ground := Ground.phase }, { on := 3, ground := Ground.phase }, { on := 4, ground := Ground.phase }, { on := 5, ground := Ground.phase }, { on := 6, ground := Ground.phase }, { on := 7, ground := Ground.textOnly Departure.lateStores }], guard := none }) (v := _) [9] [] rfl rfl (by kernel_rfl) (by kernel_rfl) (by kernel_rfl) (by kernel_rfl) (by kernel_rfl) (by kernel_rfl) (by kernel_rfl) (fun _ _ _ h => h) (Or.inl ⟨by rfl, Or.inl ?hy17⟩) ?rest17
    case hy17 => (intro w' kk ss; (try dsimp only at ss); go_simp; first | done | with_reducible rfl)
    try simp only [Act.put, List.setIfInBounds_toArray, List.set_cons_zero, List.set_cons_succ]
    refine' Reg.wpG_take (i := 9) (oi := { dst := some 14, op := Op.assign (Operand.tmp 56), type := 32, pos := "law.go:70", after := #[{ on := 7, ground := Ground.data }, { on := 8, ground := Ground.chain }, { on := 0, ground := Ground.phase }, { on := 1, ground := Ground.phase }, { on := 2, ground := Ground.phase }, { on := 3, ground := Ground.phase }, { on := 4, ground := Ground.phase }, { on := 5, ground := Ground.phase }, { on := 6, ground := Ground.phase }, { on := 7, ground := Ground.phase }, { on := 8, ground := Ground.phase }], guard := none }) (v := _) [] [] rfl rfl (by kernel_rfl) (by kernel_rfl) (by kernel_rfl) (by kernel_rfl) (by kernel_rfl) (by kernel_rfl) (by kernel_rfl) (fun _ _ _ h => h) (Or.inl ⟨by rfl, Or.inl ?hy18⟩) ?rest18
    case hy18 => (intro w' kk ss; (try dsimp only at ss); go_simp; first | done | with_reducible rfl)
    try simp only [Act.put, List.setIfInBounds_toArray, List.set_cons_zero, List.set_cons_succ]
    refine Reg.wpG_done (by kernel_rfl) (fun we ke se => ?_) _
    refine NoPanic.normal ?_
    have hr0 := hr0.trans ke
    clear ke
    have hK := hr0
    clear hr0 hall
    obtain ⟨B0, B1⟩ := hbx.out _ (hS.trans hK)
    obtain ⟨k0a, k0b, k0c, k0d⟩ := B0.four
    obtain ⟨k1a, k1b, k1c, k1d⟩ := B1.four
    go_upto_region 11 with (first
      | (go_at_call 17; (with_reducible refine (cmp_val (ns := Ref04.cmp_any a0 ad0 a1 ad1 cap0 cp0 cap1 cp1 b0 sg0 b1 sg1 p0 q0 p1 q1 _ (P0.out.since (hS0.trans (hS.trans hK))) (Q0.out.since (hS0.trans (hS.trans hK))) (P1.out.since (hS0.trans (hS.trans hK))) (Q1.out.since (hS0.trans (hS.trans hK))) (by have := FW.out; omega) (by have := FW.out; omega) (by have := FW.out; omega) (by have := FW.out; omega)) E5.out).mono ?_); rintro e v10 ⟨rfl, h⟩; have hK := hK.trans h))
    have r1 := r1.since hK
    have r2 := r2.since hK
    have r3 := r3.since hK
    have r4 := r4.since hK
    have r5 := r5.since hK
    have r6 := r6.since hK
    have r7 := r7.since hK
    have r8 := r8.since hK
    have hall : Hid (∀ W : World, Since v10 W → W.cell? ⟨ca, 0, none⟩ = some (.bool n1) ∧ W.cell? ⟨ca, 1, none⟩ = some (.slice X1 s1.length x1) ∧ W.cell? ⟨ca, 2, none⟩ = some (.bool n2) ∧ W.cell? ⟨ca, 3, none⟩ = some (.slice Y1 s2.length y1) ∧ W.cell? ⟨bkW6, 0, none⟩ = some (.bool n1) ∧ W.cell? ⟨bkW6, 1, none⟩ = some (.slice X2 s1.length x2) ∧ W.cell? ⟨bkW6, 2, none⟩ = some (.bool n2) ∧ W.cell? ⟨bkW6, 3, none⟩ = some (.slice Y2 s2.length y2) ∧ W.cell? ⟨bkW7, 0, none⟩ = some (.bool n3) ∧ W.cell? ⟨bkW7, 1, none⟩ = some (.slice X3 s3.length x3) ∧ W.cell? ⟨bkW7, 2, none⟩ = some (.bool n4) ∧ W.cell? ⟨bkW7, 3, none⟩ = some (.slice Y3 s4.length y3) ∧ W.cell? ⟨bkW8, 0, none⟩ = some (.bool n3) ∧ W.cell? ⟨bkW8, 1, none⟩ = some (.slice X4 s3.length x4) ∧ W.cell? ⟨bkW8, 2, none⟩ = some (.bool n4) ∧ W.cell? ⟨bkW8, 3, none⟩ = some (.slice Y4 s4.length y4)) := fun W h => by
      obtain ⟨aa, ab, ac, ad⟩ := (Va.out _ (hK.trans h)).four
      obtain ⟨ya, yb, yc, yd⟩ := (Vy.out _ (hK.trans h)).four
      obtain ⟨na, nb, nc, nd⟩ := (Vn.out _ (hK.trans h)).four
      obtain ⟨ma, mb, mc, md⟩ := (Vm.out _ (hK.trans h)).four
      exact ⟨aa, ab, ac, ad, ya, yb, yc, yd, na, nb, nc, nd, ma, mb, mc, md⟩
    have hr0 : Since v10 v10.drew := Since.drew (Since.refl v10)
    have r1 := r1.since hr0
    have r2 := r2.since hr0
    have r3 := r3.since hr0
    have r4 := r4.since hr0
    have r5 := r5.since hr0
    have r6 := r6.since hr0
    have r7 := r7.since hr0
    have r8 := r8.since hr0
    refine wp_region_noPanic ?_
    refine Reg.wp_region_G (S := fun W => W.cell? ⟨ca, 0, none⟩ = some (.bool n1) ∧ W.cell? ⟨ca, 1, none⟩ = some (.slice X1 s1.length x1) ∧ W.cell? ⟨ca, 2, none⟩ = some (.bool n2) ∧ W.cell? ⟨ca, 3, none⟩ = some (.slice Y1 s2.length y1) ∧ W.cell? ⟨bkW6, 0, none⟩ = some (.bool n1) ∧ W.cell? ⟨bkW6, 1, none⟩ = some (.slice X2 s1.length x2) ∧ W.cell? ⟨bkW6, 2, none⟩ = some (.bool n2) ∧ W.cell? ⟨bkW6, 3, none⟩ = some (.slice Y2 s2.length y2) ∧ W.cell? ⟨bkW7, 0, none⟩ = some (.bool n3) ∧ W.cell? ⟨bkW7, 1, none⟩ = some (.slice X3 s3.length x3) ∧ W.cell? ⟨bkW7, 2, none⟩ = some (.bool n4) ∧ W.cell? ⟨bkW7, 3, none⟩ = some (.slice Y3 s4.length y3) ∧ W.cell? ⟨bkW8, 0, none⟩ = some (.bool n3) ∧ W.cell? ⟨bkW8, 1, none⟩ = some (.slice X4 s3.length x4) ∧ W.cell? ⟨bkW8, 2, none⟩ = some (.bool n4) ∧ W.cell? ⟨bkW8, 3, none⟩ = some (.slice Y4 s4.length y4)) (fun j => [].contains j) (by kernel_rfl) ?_ ?_
    · exact hall.out _ hr0
    refine' Reg.wpG_take (i := 0) (oi := { dst := some 63, op := Op.load 31 (Operand.tmp 5), type := 31, pos := "law.go:72", after := #[], guard := none }) (v := _) [1, 3, 4, 5, 6, 7, 8, 9, 10, 11, 12, 13, 14, 15, 16, 17, 18, 19, 20, 21, 22, 23, 24, 25, 26, 27, 28, 29, 30] [] rfl rfl (by kernel_rfl) (by kernel_rfl) (by kernel_rfl) (by kernel_rfl) (by kernel_rfl) (by kernel_rfl) (by kernel_rfl) (fun _ _ _ h => h) (Or.inl ⟨by rfl, Or.inl ?hy20⟩) ?rest20
    case hy20 => (intro w' kk ss; (try dsimp only at ss); go_simp; first | done | with_reducible rfl)
    try simp only [Act.put, List.setIfInBounds_toArray, List.set_cons_zero, List.set_cons_succ]
    refine Reg.wpG_take (i := 1) (oi := { dst := some 64, op := Op.call { callee := Callee.value (Operand.func 19), args := #[Operand.tmp 63], argTypes := #[31] }, type := 26, pos := "law.go:72", after := #[{ on := 0, ground := Ground.data }], guard := none }) (v := .agg #[.bool n1, .slice X1 s1.length x1, .bool n2, .slice Y1 s2.length y1]) [3, 4, 5, 6, 7, 8, 9, 10, 11, 12, 13, 14, 15, 16, 17, 18, 19, 20, 21, 22, 23, 24, 25, 26, 27, 28, 29, 30] [] rfl rfl (by kernel_rfl) (by kernel_rfl) (by kernel_rfl) (by kernel_rfl) (by kernel_rfl) (by kernel_rfl) (by kernel_rfl) (fun _ _ _ h => h) (Or.inl ⟨by rfl, Or.inr ⟨19, #[.agg #[.bool n1, .slice X1 s1.length x1, .bool n2, .slice Y1 s2.length y1]], fun w' kk ss => ⟨?_, ?_⟩⟩⟩) ?_
    · (try dsimp only at ss); go_simp
    · exact (Law04.ours_any X1 Y1 s1.length x1 s2.length y1 n1 n2 w').mono fun e w'' h => ⟨h.1, h.2, hall.out _ (hr0.trans (kk.trans h.2))⟩
    try simp only [Act.put, List.setIfInBounds_toArray, List.set_cons_zero, List.set_cons_succ]
    refine' Reg.wpG_take (i := 2) (oi := { dst := some 65, op := Op.load 26 (Operand.tmp 7), type := 26, pos := "law.go:72", after := #[], guard := none }) (v := _) [3, 4, 5, 6, 7, 8, 9, 10, 11, 12, 13, 14, 15, 16, 17, 18, 19, 20, 21, 22, 23, 24, 25, 26, 27, 28, 29, 30] [] rfl rfl (by kernel_rfl) (by kernel_rfl) (by kernel_rfl) (by kernel_rfl) (by kernel_rfl) (by kernel_rfl) (by kernel_rfl) (fun _ _ _ h => h) (Or.inl ⟨by rfl, Or.inl ?hy21⟩) ?rest21
    case hy21 => (intro w' kk ss; (try dsimp only at ss); go_simp; first | done | with_reducible rfl)
    try simp only [Act.put, List.setIfInBounds_toArray, List.set_cons_zero, List.set_cons_succ]
    refine Reg.wpG_take (i := 3) (oi := { dst := some 66, op := Op.call { callee := Callee.value (Operand.func 18), args := #[Operand.tmp 64, Operand.tmp 65], argTypes := #[26, 26] }, type := 4, pos := "law.go:72", after := #[{ on := 1, ground := Ground.data }, { on := 2, ground := Ground.data }, { on := 1, ground := Ground.chain }], guard := none }) (v := .bool true) [4, 5, 6, 7, 8, 9, 10, 11, 12, 13, 14, 15, 16, 17, 18, 19, 20, 21, 22, 23, 24, 25, 26, 27, 28, 29, 30] [] rfl rfl (by kernel_rfl) (by kernel_rfl) (by kernel_rfl) (by kernel_rfl) (by kernel_rfl) (by kernel_rfl) (by kernel_rfl) (fun _ _ _ h => h) (Or.inl ⟨by rfl, Or.inr ⟨18, #[.agg #[.bool n1, .slice X1 s1.length x1, .bool n2, .slice Y1 s2.length y1], .agg #[.bool n1, .slice X2 s1.length x2, .bool n2, .slice Y2 s2.length y2]], fun w' kk ss => ⟨?_, ?_⟩⟩⟩) ?_
    · (try dsimp only at ss); go_simp
    · exact (same_yes X1 Y1 X2 Y2 x1 y1 x2 y2 n1 n2 s1 s2 w' (r1.since kk) (r2.since kk) (r3.since kk) (r4.since kk) (by have := LA.out; omega) (by have := LA.out; omega)).mono fun e w'' h => ⟨h.1, h.2, hall.out _ (hr0.trans (kk.trans h.2))⟩
    try simp only [Act.put, List.setIfInBounds_toArray, List.set_cons_zero, List.set_cons_succ]
    refine' Reg.wpG_take (i := 4) (oi := { dst := some 67, op := Op.move (Operand.tmp 66), type := 4, pos := "law.go:72", after := #[{ on := 3, ground := Ground.data }, { on := 3, ground := Ground.chain }], guard := none }) (v := _) [5, 6, 7, 8, 9, 10, 11, 12, 13, 14, 15, 16, 17, 18, 19, 20, 21, 22, 23, 24, 25, 26, 27, 28, 29, 30] [] rfl rfl (by kernel_rfl) (by kernel_rfl) (by kernel_rfl) (by kernel_rfl) (by kernel_rfl) (by kernel_rfl) (by kernel_rfl) (fun _ _ _ h => h) (Or.inl ⟨by rfl, Or.inl ?hy22⟩) ?rest22
    case hy22 => (intro w' kk ss; (try dsimp only at ss); go_simp; first | done | with_reducible rfl)
    try simp only [Act.put, List.setIfInBounds_toArray, List.set_cons_zero, List.set_cons_succ]
    refine' Reg.wpG_take (i := 5) (oi := { dst := some 68, op := Op.move (Operand.tmp 6), type := 32, pos := "law.go:72", after := #[{ on := 4, ground := Ground.guard }], guard := some (4, true) }) (v := _) [7, 8, 9, 10, 11, 12, 13, 14, 15, 16, 17, 18, 19, 20, 21, 22, 23, 24, 25, 26, 27, 28, 29, 30] [] rfl rfl (by kernel_rfl) (by kernel_rfl) (by kernel_rfl) (by kernel_rfl) (by kernel_rfl) (by kernel_rfl) (by kernel_rfl) (fun _ _ _ h => h) (Or.inl ⟨by rfl, Or.inl ?hy23⟩) ?rest23
    case hy23 => (intro w' kk ss; (try dsimp only at ss); go_simp; first | done | with_reducible rfl)
    try simp only [Act.put, List.setIfInBounds_toArray, List.set_cons_zero, List.set_cons_succ]
    refine' Reg.wpG_take (i := 6) (oi := { dst := some 69, op := Op.move (Operand.tmp 8), type := 3, pos := "law.go:72", after := #[{ on := 4, ground := Ground.guard }], guard := some (4, true) }) (v := _) [7, 8, 9, 10, 11, 12, 13, 14, 15, 16, 17, 18, 19, 20, 21, 22, 23, 24, 25, 26, 27, 28, 29, 30] [] rfl rfl (by kernel_rfl) (by kernel_rfl) (by kernel_rfl) (by kernel_rfl) (by kernel_rfl) (by kernel_rfl) (by kernel_rfl) (fun _ _ _ h => h) (Or.inl ⟨by rfl, Or.inl ?hy24⟩) ?rest24
    case hy24 => (intro w' kk ss; (try dsimp only at ss); go_simp; first | done | with_reducible rfl)
    try simp only [Act.put, List.setIfInBounds_toArray, List.set_cons_zero, List.set_cons_succ]
    refine' Reg.wpG_take (i := 7) (oi := { dst := some 70, op := Op.binOp BinOp.eql 3 (Operand.tmp 68) (Operand.tmp 69) 3, type := 4, pos := "law.go:72", after := #[{ on := 5, ground := Ground.data }, { on := 6, ground := Ground.data }, { on := 4, ground := Ground.guard }], guard := some (4, true) }) (v := _) [8, 9, 10, 11, 12, 13, 14, 15, 16, 17, 18, 19, 20, 21, 22, 23, 24, 25, 26, 27, 28, 29, 30] [] rfl rfl (by kernel_rfl) (by kernel_rfl) (by kernel_rfl) (by kernel_rfl) (by kernel_rfl) (by kernel_rfl) (by kernel_rfl) (fun _ _ _ h => h) (Or.inl ⟨by rfl, Or.inl ?hy25⟩) ?rest25
    case hy25 => (intro w' kk ss; (try dsimp only at ss); go_simp; first | done | with_reducible rfl)
    try simp only [Act.put, List.setIfInBounds_toArray, List.set_cons_zero, List.set_cons_succ]
    refine' Reg.wpG_take (i := 8) (oi := { dst := some 71, op := Op.pick (Operand.tmp 67) (Operand.tmp 70) (Operand.const (Value.bool false)), type := 4, pos := "law.go:72", after := #[{ on := 4, ground := Ground.data }, { on := 7, ground := Ground.data }], guard := none }) (v := _) [9, 10, 11, 12, 13, 14, 15, 16, 17, 18, 19, 20, 21, 22, 23, 24, 25, 26, 27, 28, 29, 30] [] rfl rfl (by kernel_rfl) (by kernel_rfl) (by kernel_rfl) (by kernel_rfl) (by kernel_rfl) (by kernel_rfl) (by kernel_rfl) (fun _ _ _ h => h) (Or.inl ⟨by rfl, Or.inl ?hy26⟩) ?rest26
    case hy26 => (intro w' kk ss; (try dsimp only at ss); go_simp; first | done | with_reducible rfl)
    try simp only [Act.put, List.setIfInBounds_toArray, List.set_cons_zero, List.set_cons_succ]
    refine' Reg.wpG_take (i := 9) (oi := { dst := some 72, op := Op.move (Operand.tmp 71), type := 4, pos := "law.go:72", after := #[{ on := 8, ground := Ground.data }, { on := 4, ground := Ground.chain }], guard := none }) (v := _) [10, 11, 12, 13, 14, 15, 16, 17, 18, 19, 20, 21, 22, 23, 24, 25, 26, 27, 28, 29, 30] [] rfl rfl (by kernel_rfl) (by kernel_rfl) (by kernel_rfl) (by kernel_rfl) (by kernel_rfl) (by kernel_rfl) (by kernel_rfl) (fun _ _ _ h => h) (Or.inl ⟨by rfl, Or.inl ?hy27⟩) ?rest27
    case hy27 => (intro w' kk ss; (try dsimp only at ss); go_simp; first | done | with_reducible rfl)
    try simp only [Act.put, List.setIfInBounds_toArray, List.set_cons_zero, List.set_cons_succ]
    refine' Reg.wpG_take (i := 10) (oi := { dst := some 73, op := Op.load 31 (Operand.tmp 9), type := 31, pos := "law.go:72", after := #[{ on := 9, ground := Ground.guard }], guard := some (9, true) }) (v := _) [11, 13, 14, 15, 16, 17, 18, 19, 20, 21, 22, 23, 24, 25, 26, 27, 28, 29, 30] [] rfl rfl (by kernel_rfl) (by kernel_rfl) (by kernel_rfl) (by kernel_rfl) (by kernel_rfl) (by kernel_rfl) (by kernel_rfl) (fun _ _ _ h => h) (Or.inl ⟨by rfl, Or.inl ?hy28⟩) ?rest28
    case hy28 => (intro w' kk ss; (try dsimp only at ss); go_simp; first | done | with_reducible rfl)
    try simp only [Act.put, List.setIfInBounds_toArray, List.set_cons_zero, List.set_cons_succ]
    refine Reg.wpG_take (i := 11) (oi := { dst := some 74, op := Op.call { callee := Callee.value (Operand.func 19), args := #[Operand.tmp 73], argTypes := #[31] }, type := 26, pos := "law.go:72", after := #[{ on := 10, ground := Ground.data }, { on := 9, ground := Ground.chain }, { on := 9, ground := Ground.guard }], guard := some (9, true) }) (v := .agg #[.bool n3, .slice X3 s3.length x3, .bool n4, .slice Y3 s4.length y3]) [13, 14, 15, 16, 17, 18, 19, 20, 21, 22, 23, 24, 25, 26, 27, 28, 29, 30] [] rfl rfl (by kernel_rfl) (by kernel_rfl) (by kernel_rfl) (by kernel_rfl) (by kernel_rfl) (by kernel_rfl) (by kernel_rfl) (fun _ _ _ h => h) (Or.inl ⟨by rfl, Or.inr ⟨19, #[.agg #[.bool n3, .slice X3 s3.length x3, .bool n4, .slice Y3 s4.length y3]], fun w' kk ss => ⟨?_, ?_⟩⟩⟩) ?_
    · (try dsimp only at ss); go_simp
    · exact (Law04.ours_any X3 Y3 s3.length x3 s4.length y3 n3 n4 w').mono fun e w'' h => ⟨h.1, h.2, hall.out _ (hr0.trans (kk.trans h.2))⟩
    try simp only [Act.put, List.setIfInBounds_toArray, List.set_cons_zero, List.set_cons_succ]
    refine' Reg.wpG_take (i := 12) (oi := { dst := some 75, op := Op.load 26 (Operand.tmp 11), type := 26, pos := "law.go:72", after := #[{ on := 9, ground := Ground.guard }], guard := some (9, true) }) (v := _) [13, 14, 15, 16, 17, 18, 19, 20, 21, 22, 23, 24, 25, 26, 27, 28, 29, 30] [] rfl rfl (by kernel_rfl) (by kernel_rfl) (by kernel_rfl) (by kernel_rfl) (by kernel_rfl) (by kernel_rfl) (by kernel_rfl) (fun _ _ _ h => h) (Or.inl ⟨by rfl, Or.inl ?hy29⟩) ?rest29
    case hy29 => (intro w' kk ss; (try dsimp only at ss); go_simp; first | done | with_reducible rfl)
    try simp only [Act.put, List.setIfInBounds_toArray, List.set_cons_zero, List.set_cons_succ]
    refine Reg.wpG_take (i := 13) (oi := { dst := some 76, op := Op.call { callee := Callee.value (Operand.func 18), args := #[Operand.tmp 74, Operand.tmp 75], argTypes := #[26, 26] }, type := 4, pos := "law.go:72", after := #[{ on := 11, ground := Ground.data }, { on := 12, ground := Ground.data }, { on := 11, ground := Ground.chain }, { on := 9, ground := Ground.guard }], guard := some (9, true) }) (v := .bool true) [14, 15, 16, 17, 18, 19, 20, 21, 22, 23, 24, 25, 26, 27, 28, 29, 30] [] rfl rfl (by kernel_rfl) (by kernel_rfl) (by kernel_rfl) (by kernel_rfl) (by kernel_rfl) (by kernel_rfl) (by kernel_rfl) (fun _ _ _ h => h) (Or.inl ⟨by rfl, Or.inr ⟨18, #[.agg #[.bool n3, .slice X3 s3.length x3, .bool n4, .slice Y3 s4.length y3], .agg #[.bool n3, .slice X4 s3.length x4, .bool n4, .slice Y4 s4.length y4]], fun w' kk ss => ⟨?_, ?_⟩⟩⟩) ?_
    · (try dsimp only at ss); go_simp
    · exact (same_yes X3 Y3 X4 Y4 x3 y3 x4 y4 n3 n4 s3 s4 w' (r5.since kk) (r6.since kk) (r7.since kk) (r8.since kk) (by have := LB.out; omega) (by have := LB.out; omega)).mono fun e w'' h => ⟨h.1, h.2, hall.out _ (hr0.trans (kk.trans h.2))⟩
    try simp only [Act.put, List.setIfInBounds_toArray, List.set_cons_zero, List.set_cons_succ]
    refine' Reg.wpG_take (i := 14) (oi := { dst := some 77, op := Op.pick (Operand.tmp 72) (Operand.tmp 76) (Operand.const (Value.bool false)), type := 4, pos := "law.go:72", after := #[{ on := 9, ground := Ground.data }, { on := 13, ground := Ground.data }], guard := none }) (v := _) [15, 16, 17, 18, 19, 20, 21, 22, 23, 24, 25, 26, 27, 28, 29, 30] [] rfl rfl (by kernel_rfl) (by kernel_rfl) (by kernel_rfl) (by kernel_rfl) (by kernel_rfl) (by kernel_rfl) (by kernel_rfl) (fun _ _ _ h => h) (Or.inl ⟨by rfl, Or.inl ?hy30⟩) ?rest30
    case hy30 => (intro w' kk ss; (try dsimp only at ss); go_simp; first | done | with_reducible rfl)
    try simp only [Act.put, List.setIfInBounds_toArray, List.set_cons_zero, List.set_cons_succ]
    refine' Reg.wpG_take (i := 15) (oi := { dst := some 78, op := Op.move (Operand.tmp 77), type := 4, pos := "law.go:72", after := #[{ on := 14, ground := Ground.data }, { on := 13, ground := Ground.chain }], guard := none }) (v := _) [16, 17, 18, 19, 20, 21, 22, 23, 24, 25, 26, 27, 28, 29, 30] [] rfl rfl (by kernel_rfl) (by kernel_rfl) (by kernel_rfl) (by kernel_rfl) (by kernel_rfl) (by kernel_rfl) (by kernel_rfl) (fun _ _ _ h => h) (Or.inl ⟨by rfl, Or.inl ?hy31⟩) ?rest31
    case hy31 => (intro w' kk ss; (try dsimp only at ss); go_simp; first | done | with_reducible rfl)
    try simp only [Act.put, List.setIfInBounds_toArray, List.set_cons_zero, List.set_cons_succ]
    refine' Reg.wpG_take (i := 16) (oi := { dst := some 79, op := Op.move (Operand.tmp 10), type := 32, pos := "law.go:72", after := #[{ on := 15, ground := Ground.guard }], guard := some (15, true) }) (v := _) [18, 19, 20, 21, 22, 23, 24, 25, 26, 27, 28, 29, 30] [] rfl rfl (by kernel_rfl) (by kernel_rfl) (by kernel_rfl) (by kernel_rfl) (by kernel_rfl) (by kernel_rfl) (by kernel_rfl) (fun _ _ _ h => h) (Or.inl ⟨by rfl, Or.inl ?hy32⟩) ?rest32
    case hy32 => (intro w' kk ss; (try dsimp only at ss); go_simp; first | done | with_reducible rfl)
    try simp only [Act.put, List.setIfInBounds_toArray, List.set_cons_zero, List.set_cons_succ]
    refine' Reg.wpG_take (i := 17) (oi := { dst := some 80, op := Op.move (Operand.tmp 12), type := 3, pos := "law.go:72", after := #[{ on := 15, ground := Ground.guard }], guard := some (15, true) }) (v := _) [18, 19, 20, 21, 22, 23, 24, 25, 26, 27, 28, 29, 30] [] rfl rfl (by kernel_rfl) (by kernel_rfl) (by kernel_rfl) (by kernel_rfl) (by kernel_rfl) (by kernel_rfl) (by kernel_rfl) (fun _ _ _ h => h) (Or.inl ⟨by rfl, Or.inl ?hy33⟩) ?rest33
    case hy33 => (intro w' kk ss; (try dsimp only at ss); go_simp; first | done | with_reducible rfl)
    try simp only [Act.put, List.setIfInBounds_toArray, List.set_cons_zero, List.set_cons_succ]
    refine' Reg.wpG_take (i := 18) (oi := { dst := some 81, op := Op.binOp BinOp.eql 3 (Operand.tmp 79) (Operand.tmp 80) 3, type := 4, pos := "law.go:72", after := #[{ on := 16, ground := Ground.data }, { on := 17, ground := Ground.data }, { on := 15, ground := Ground.guard }], guard := some (15, true) }) (v := _) [19, 20, 21, 22, 23, 24, 25, 26, 27, 28, 29, 30] [] rfl rfl (by kernel_rfl) (by kernel_rfl) (by kernel_rfl) (by kernel_rfl) (by kernel_rfl) (by kernel_rfl) (by kernel_rfl) (fun _ _ _ h => h) (Or.inl ⟨by rfl, Or.inl ?hy34⟩) ?rest34
    case hy34 => (intro w' kk ss; (try dsimp only at ss); go_simp; first | done | with_reducible rfl)
    try simp only [Act.put, List.setIfInBounds_toArray, List.set_cons_zero, List.set_cons_succ]
    refine' Reg.wpG_take (i := 19) (oi := { dst := some 82, op := Op.pick (Operand.tmp 78) (Operand.tmp 81) (Operand.const (Value.bool false)), type := 4, pos := "law.go:72", after := #[{ on := 15, ground := Ground.data }, { on := 18, ground := Ground.data }], guard := none }) (v := _) [20, 21, 22, 23, 24, 25, 26, 27, 28, 29, 30] [] rfl rfl (by kernel_rfl) (by kernel_rfl) (by kernel_rfl) (by kernel_rfl) (by kernel_rfl) (by kernel_rfl) (by kernel_rfl) (fun _ _ _ h => h) (Or.inl ⟨by rfl, Or.inl ?hy35⟩) ?rest35
    case hy35 => (intro w' kk ss; (try dsimp only at ss); go_simp; first | done | with_reducible rfl)
    try simp only [Act.put, List.setIfInBounds_toArray, List.set_cons_zero, List.set_cons_succ]
    refine' Reg.wpG_take (i := 20) (oi := { dst := some 83, op := Op.move (Operand.tmp 82), type := 4, pos := "law.go:72", after := #[{ on := 19, ground := Ground.data }, { on := 15, ground := Ground.chain }], guard := none }) (v := _) [21, 22, 23, 24, 25, 26, 27, 28, 29, 30] [] rfl rfl (by kernel_rfl) (by kernel_rfl) (by kernel_rfl) (by kernel_rfl) (by kernel_rfl) (by kernel_rfl) (by kernel_rfl) (fun _ _ _ h => h) (Or.inl ⟨by rfl, Or.inl ?hy36⟩) ?rest36
    case hy36 => (intro w' kk ss; (try dsimp only at ss); go_simp; first | done | with_reducible rfl)
    try simp only [Act.put, List.setIfInBounds_toArray, List.set_cons_zero, List.set_cons_succ]
    refine' Reg.wpG_take (i := 21) (oi := { dst := some 84, op := Op.move (Operand.tmp 13), type := 3, pos := "law.go:72", after := #[{ on := 20, ground := Ground.guard }], guard := some (20, true) }) (v := _) [23, 24, 25, 26, 27, 28, 29, 30] [] rfl rfl (by kernel_rfl) (by kernel_rfl) (by kernel_rfl) (by kernel_rfl) (by kernel_rfl) (by kernel_rfl) (by kernel_rfl) (fun _ _ _ h => h) (Or.inl ⟨by rfl, Or.inl ?hy37⟩) ?rest37
    case hy37 => (intro w' kk ss; (try dsimp only at ss); go_simp; first | done | with_reducible rfl)
    try simp only [Act.put, List.setIfInBounds_toArray, List.set_cons_zero, List.set_cons_succ]
    refine' Reg.wpG_take (i := 22) (oi := { dst := some 85, op := Op.move (Operand.tmp 15), type := 3, pos := "law.go:72", after := #[{ on := 20, ground := Ground.guard }], guard := some (20, true) }) (v := _) [23, 24, 25, 26, 27, 28, 29, 30] [] rfl rfl (by kernel_rfl) (by kernel_rfl) (by kernel_rfl) (by kernel_rfl) (by kernel_rfl) (by kernel_rfl) (by kernel_rfl) (fun _ _ _ h => h) (Or.inl ⟨by rfl, Or.inl ?hy38⟩) ?rest38
    case hy38 => (intro w' kk ss; (try dsimp only at ss); go_simp; first | done | with_reducible rfl)
    try simp only [Act.put, List.setIfInBounds_toArray, List.set_cons_zero, List.set_cons_succ]
    refine' Reg.wpG_take (i := 23) (oi := { dst := some 86, op := Op.binOp BinOp.eql 3 (Operand.tmp 84) (Operand.tmp 85) 3, type := 4, pos := "law.go:72", after := #[{ on := 21, ground := Ground.data }, { on := 22, ground := Ground.data }, { on := 20, ground := Ground.guard }], guard := some (20, true) }) (v := _) [24, 25, 26, 27, 28, 29, 30] [] rfl rfl (by kernel_rfl) (by kernel_rfl) (by kernel_rfl) (by kernel_rfl) (by kernel_rfl) (by kernel_rfl) (by kernel_rfl) (fun _ _ _ h => h) (Or.inl ⟨by rfl, Or.inl ?hy39⟩) ?rest39
    case hy39 => (intro w' kk ss; (try dsimp only at ss); go_simp; first | done | with_reducible rfl)
    try simp only [Act.put, List.setIfInBounds_toArray, List.set_cons_zero, List.set_cons_succ]
    refine' Reg.wpG_take (i := 24) (oi := { dst := some 87, op := Op.pick (Operand.tmp 83) (Operand.tmp 86) (Operand.const (Value.bool false)), type := 4, pos := "law.go:72", after := #[{ on := 20, ground := Ground.data }, { on := 23, ground := Ground.data }], guard := none }) (v := _) [25, 26, 27, 28, 29, 30] [] rfl rfl (by kernel_rfl) (by kernel_rfl) (by kernel_rfl) (by kernel_rfl) (by kernel_rfl) (by kernel_rfl) (by kernel_rfl) (fun _ _ _ h => h) (Or.inl ⟨by rfl, Or.inl ?hy40⟩) ?rest40
    case hy40 => (intro w' kk ss; (try dsimp only at ss); go_simp; first | done | with_reducible rfl)
    try simp only [Act.put, List.setIfInBounds_toArray, List.set_cons_zero, List.set_cons_succ]
    refine' Reg.wpG_take (i := 25) (oi := { dst := some 88, op := Op.move (Operand.tmp 87), type := 4, pos := "law.go:72", after := #[{ on := 24, ground := Ground.data }, { on := 20, ground := Ground.chain }], guard := none }) (v := _) [26, 27, 28, 29, 30] [] rfl rfl (by kernel_rfl) (by kernel_rfl) (by kernel_rfl) (by kernel_rfl) (by kernel_rfl) (by kernel_rfl) (by kernel_rfl) (fun _ _ _ h => h) (Or.inl ⟨by rfl, Or.inl ?hy41⟩) ?rest41
    case hy41 => (intro w' kk ss; (try dsimp only at ss); go_simp; first | done | with_reducible rfl)
    try simp only [Act.put, List.setIfInBounds_toArray, List.set_cons_zero, List.set_cons_succ]
    refine' Reg.wpG_take (i := 26) (oi := { dst := some 89, op := Op.move (Operand.tmp 14), type := 32, pos := "law.go:72", after := #[{ on := 25, ground := Ground.guard }], guard := some (25, true) }) (v := _) [28, 29, 30] [] rfl rfl (by kernel_rfl) (by kernel_rfl) (by kernel_rfl) (by kernel_rfl) (by kernel_rfl) (by kernel_rfl) (by kernel_rfl) (fun _ _ _ h => h) (Or.inl ⟨by rfl, Or.inl ?hy42⟩) ?rest42
    case hy42 => (intro w' kk ss; (try dsimp only at ss); go_simp; first | done | with_reducible rfl)
    try simp only [Act.put, List.setIfInBounds_toArray, List.set_cons_zero, List.set_cons_succ]
    refine' Reg.wpG_take (i := 27) (oi := { dst := some 90, op := Op.move (Operand.tmp 16), type := 3, pos := "law.go:72", after := #[{ on := 25, ground := Ground.guard }], guard := some (25, true) }) (v := _) [28, 29, 30] [] rfl rfl (by kernel_rfl) (by kernel_rfl) (by kernel_rfl) (by kernel_rfl) (by kernel_rfl) (by kernel_rfl) (by kernel_rfl) (fun _ _ _ h => h) (Or.inl ⟨by rfl, Or.inl ?hy43⟩) ?rest43
    case hy43 => (intro w' kk ss; (try dsimp only at ss); go_simp; first | done | with_reducible rfl)
    try simp only [Act.put, List.setIfInBounds_toArray, List.set_cons_zero, List.set_cons_succ]
    refine' Reg.wpG_take (i := 28) (oi := { dst := some 91, op := Op.binOp BinOp.eql 3 (Operand.tmp 89) (Operand.tmp 90) 3, type := 4, pos := "law.go:72", after := #[{ on := 26, ground := Ground.data }, { on := 27, ground := Ground.data }, { on := 25, ground := Ground.guard }], guard := some (25, true) }) (v := _) [29, 30] [] rfl rfl (by kernel_rfl) (by kernel_rfl) (by kernel_rfl) (by kernel_rfl) (by kernel_rfl) (by kernel_rfl) (by kernel_rfl) (fun _ _ _ h => h) (Or.inl ⟨by rfl, Or.inl ?hy44⟩) ?rest44
    case hy44 => (intro w' kk ss; (try dsimp only at ss); go_simp; first | done | with_reducible rfl)
    try simp only [Act.put, List.setIfInBounds_toArray, List.set_cons_zero, List.set_cons_succ]
    refine' Reg.wpG_take (i := 29) (oi := { dst := some 92, op := Op.pick (Operand.tmp 88) (Operand.tmp 91) (Operand.const (Value.bool false)), type := 4, pos := "law.go:72", after := #[{ on := 25, ground := Ground.data }, { on := 28, ground := Ground.data }], guard := none }) (v := _) [30] [] rfl rfl (by kernel_rfl) (by kernel_rfl) (by kernel_rfl) (by kernel_rfl) (by kernel_rfl) (by kernel_rfl) (by kernel_rfl) (fun _ _ _ h => h) (Or.inl ⟨by rfl, Or.inl ?hy45⟩) ?rest45
    case hy45 => (intro w' kk ss; (try dsimp only at ss); go_simp; first | done | with_reducible rfl)
    try simp only [Act.put, List.setIfInBounds_toArray, List.set_cons_zero, List.set_cons_succ]
    refine' Reg.wpG_take (i := 30) (oi := { dst := some 4, op := Op.assign (Operand.tmp 92), type := 4, pos := "law.go:72", after := #[{ on := 29, ground := Ground.data }, { on := 25, ground := Ground.chain }, { on := 0, ground := Ground.phase }, { on := 1, ground := Ground.phase }, { on := 2, ground := Ground.phase }, { on := 3, ground := Ground.phase }, { on := 4, ground := Ground.phase }, { on := 5, ground := Ground.phase }, { on := 6, ground := Ground.phase }, { on := 7, ground := Ground.phase }, { on := 8, ground := Ground.phase }, { on := 9, ground := Ground.phase }, { on := 10, ground := Ground.phase }, { on := 11, ground := Ground.phase }, { on := 12, ground := Ground.phase }, { on := 13, ground := Ground.phase }, { on := 14, ground := Ground.phase }, { on := 15, ground := Ground.phase }, { on := 16, ground := Ground.phase }, { on := 17, ground := Ground.phase }, { on := 18, ground := Ground.phase }, { on := 19, ground := Ground.phase }, { on := 20, ground := Ground.phase }, { on := 21, ground := Ground.phase }, { on := 22, ground := Ground.phase }, { on := 23, ground := Ground.phase }, { on := 24, ground := Ground.phase }, { on := 25, ground := Ground.phase }, { on := 26, ground := Ground.phase }, { on := 27, ground := Ground.phase }, { on := 28, ground := Ground.phase }, { on := 29, ground := Ground.phase }], guard := none }) (v := _) [] [] rfl rfl (by kernel_rfl) (by kernel_rfl) (by kernel_rfl) (by kernel_rfl) (by kernel_rfl) (by kernel_rfl) (by kernel_rfl) (fun _ _ _ h => h) (Or.inl ⟨by rfl, Or.inl ?hy46⟩) ?rest46
    case hy46 => (intro w' kk ss; (try dsimp only at ss); go_simp; first | done | with_reducible rfl)
    try simp only [Act.put, List.setIfInBounds_toArray, List.set_cons_zero, List.set_cons_succ]
    refine Reg.wpG_done (by kernel_rfl) (fun we ke se => ?_) _
    refine NoPanic.normal ?_
    have hr0 := hr0.trans ke
    have r1 := r1.since ke
    have r2 := r2.since ke
    have r3 := r3.since ke
    have r4 := r4.since ke
    have r5 := r5.since ke
    have r6 := r6.since ke
    have r7 := r7.since ke
    have r8 := r8.since ke
    clear ke
    go_wp2_with fail
    go_ret
    exact ⟨rfl, hS0.trans (hS.trans (hK.trans hr0))⟩

set_option maxRecDepth 100000 in
theorem lifted (os : Os) (started : os.Started) (H : Type) (enc : TypeId × Value → H) :
    ReturnsInHanded {} Tryz.checked os 3 .any (fun w args => (Rows.ratioSumsSpec.pre enc Tryz.prog Tryz.f3 Rows.ratioSumsRow.domain false w args ∧ laidMetH Tryz.prog Rows.ratioSumsRow.laid w) ∧ sizedMet enc Tryz.prog Tryz.f3 (OpenSpec.ofChange Rows.ratioSumsSpec) false w args) (Rows.ratioSumsSpec.post enc Tryz.prog Tryz.f3 false true false false) := by
  refine returnsInHanded_of_change_and (C := Tryz.checked) (X := fun w _ => laidMetH Tryz.prog Rows.ratioSumsRow.laid w) (fun _ _ _ hh h => h.of_heap hh) own started (by kernel_rfl) Tryz.func3
    (ChangeSpec.witness_shaped (enc := enc) (C := Tryz.checked) (os := os) (X := fun w _ => laidMetH Tryz.prog Rows.ratioSumsRow.laid w) false (World.laidAll Tryz.prog os Rows.ratioSumsRow.laid) #[.agg #[.bool false, .slice none 0 0, .bool false, .slice none 0 0], .agg #[.bool false, .slice none 0 0, .bool false, .slice none 0 0]] 8 (World.laidAll_os _ _ _)
      (World.shaped_of_ZipB (by kernel_rfl) (by kernel_rfl)) (by kernel_rfl) (by kernel_rfl) (by kernel_rfl)
      (by rw [MakeChecks.laidMetH_plain _ _ _ (by kernel_rfl)]; exact laidMet_laidAll _ (by kernel_rfl) (by kernel_rfl))) ?_
  intro W base args ds gs before hval0 hW hcnd _ _ _
  have hval : ∀ (j : Nat) t v, Tryz.f3.params[j]? = some t → args[j]? = some v → Value.okWide Tryz.prog W .any base t v := hval0
  have hW' := hW
  obtain ⟨p, q, hA0, hV, rfl, hfz, hnd⟩ := hW
  have hA : DataW.TrodAll enc Tryz.prog W 0 (fun _ => true) true Tryz.f3.params.toList args.toList ds p := hA0
  rw [Tryz.params3] at hA hval
  obtain ⟨v0, vs0, d0, ds0, p0, q0, hargs, rfl, rfl, h0, r0⟩ := trodAll_cons hA
  obtain ⟨v1, vs1, d1, ds1, p1, q1, rfl, rfl, rfl, h1, r1⟩ := trodAll_cons r0
  obtain ⟨rfl, rfl, rfl⟩ := trodAll_nil r1
  obtain rfl : args = #[v0, v1] := by cases args; simp_all
  obtain ⟨rfl, rfl⟩ := trodVars_none hV
  have k0 := h0
  have lt0 : ∀ x ∈ p0, x.block < W.heap.size := by obtain ⟨m, hm⟩ := k0; exact DataW.trod_lt m _ _ _ hm
  obtain ⟨cb0, cm0, ce0, cr0, yb0, ym0, ye0, yr0, nn0, mm0, rfl, hb0, hm0, he0, hr0⟩ := open_rat Tryz.underlying26 Tryz.underlying24 Tryz.underlying24 rfl rfl cells26 cells24 cells24 (by kernel_rfl) (hval 0 26 v0 rfl rfl) h0
  obtain ⟨b0, ebb0, xbb0⟩ := DataW.trod_bool Tryz.underlying4 hb0
  simp at ebb0
  subst ebb0
  obtain ⟨sg0, ebsg0, xbsg0⟩ := DataW.trod_bool Tryz.underlying4 he0
  simp at ebsg0
  subst ebsg0
  obtain ⟨a0, len0, cap0, em0⟩ := slice_form Tryz.underlying22 hm0
  simp at em0
  subst em0
  obtain ⟨ad0, ln0, cp0, er0⟩ := slice_form Tryz.underlying22 hr0
  simp at er0
  subst er0
  obtain ⟨z0, w0⟩ : ∃ zs, IsRow .u32 W a0 len0 cap0 zs := by
    have hf := hm0
    rcases open_ints Tryz.underlying22 Tryz.underlying88 (by kernel_rfl) hf with ⟨hcs, _⟩ | ⟨x, l, c, zs, hcs, _, hl, hm, hz, _, hcell, hwz⟩
    · simp [Value.cells] at hcs
      obtain ⟨rfl, rfl, rfl⟩ := hcs
      exact ⟨[], .inl ⟨rfl, rfl, rfl, rfl⟩⟩
    · simp [Value.cells] at hcs
      obtain ⟨rfl, rfl, rfl⟩ := hcs
      exact ⟨zs, .inr ⟨_, rfl, hl, hm, by simpa using hz, hcell, hwz⟩⟩
  obtain ⟨y0, u0⟩ : ∃ zs, IsRow .u32 W ad0 ln0 cp0 zs := by
    have hf := hr0
    rcases open_ints Tryz.underlying22 Tryz.underlying88 (by kernel_rfl) hf with ⟨hcs, _⟩ | ⟨x, l, c, zs, hcs, _, hl, hm, hz, _, hcell, hwz⟩
    · simp [Value.cells] at hcs
      obtain ⟨rfl, rfl, rfl⟩ := hcs
      exact ⟨[], .inl ⟨rfl, rfl, rfl, rfl⟩⟩
    · simp [Value.cells] at hcs
      obtain ⟨rfl, rfl, rfl⟩ := hcs
      exact ⟨zs, .inr ⟨_, rfl, hl, hm, by simpa using hz, hcell, hwz⟩⟩
  have k1 := h1
  have lt1 : ∀ x ∈ p1, x.block < W.heap.size := by obtain ⟨m, hm⟩ := k1; exact DataW.trod_lt m _ _ _ hm
  obtain ⟨cb1, cm1, ce1, cr1, yb1, ym1, ye1, yr1, nn1, mm1, rfl, hb1, hm1, he1, hr1⟩ := open_rat Tryz.underlying26 Tryz.underlying24 Tryz.underlying24 rfl rfl cells26 cells24 cells24 (by kernel_rfl) (hval 1 26 v1 rfl rfl) h1
  obtain ⟨b1, ebb1, xbb1⟩ := DataW.trod_bool Tryz.underlying4 hb1
  simp at ebb1
  subst ebb1
  obtain ⟨sg1, ebsg1, xbsg1⟩ := DataW.trod_bool Tryz.underlying4 he1
  simp at ebsg1
  subst ebsg1
  obtain ⟨a1, len1, cap1, em1⟩ := slice_form Tryz.underlying22 hm1
  simp at em1
  subst em1
  obtain ⟨ad1, ln1, cp1, er1⟩ := slice_form Tryz.underlying22 hr1
  simp at er1
  subst er1
  obtain ⟨z1, w1⟩ : ∃ zs, IsRow .u32 W a1 len1 cap1 zs := by
    have hf := hm1
    rcases open_ints Tryz.underlying22 Tryz.underlying88 (by kernel_rfl) hf with ⟨hcs, _⟩ | ⟨x, l, c, zs, hcs, _, hl, hm, hz, _, hcell, hwz⟩
    · simp [Value.cells] at hcs
      obtain ⟨rfl, rfl, rfl⟩ := hcs
      exact ⟨[], .inl ⟨rfl, rfl, rfl, rfl⟩⟩
    · simp [Value.cells] at hcs
      obtain ⟨rfl, rfl, rfl⟩ := hcs
      exact ⟨zs, .inr ⟨_, rfl, hl, hm, by simpa using hz, hcell, hwz⟩⟩
  obtain ⟨y1, u1⟩ : ∃ zs, IsRow .u32 W ad1 ln1 cp1 zs := by
    have hf := hr1
    rcases open_ints Tryz.underlying22 Tryz.underlying88 (by kernel_rfl) hf with ⟨hcs, _⟩ | ⟨x, l, c, zs, hcs, _, hl, hm, hz, _, hcell, hwz⟩
    · simp [Value.cells] at hcs
      obtain ⟨rfl, rfl, rfl⟩ := hcs
      exact ⟨[], .inl ⟨rfl, rfl, rfl, rfl⟩⟩
    · simp [Value.cells] at hcs
      obtain ⟨rfl, rfl, rfl⟩ := hcs
      exact ⟨zs, .inr ⟨_, rfl, hl, hm, by simpa using hz, hcell, hwz⟩⟩
  clear hA0 hval0
  refine (walk b0 a0 len0 cap0 sg0 ad0 ln0 cp0 z0 y0 b1 a1 len1 cap1 sg1 ad1 ln1 cp1 z1 y1 W w0 u0 w1 u1).mono fun e W' ⟨he, bel⟩ => ?_
  subst he
  exact ⟨_, rfl, _, _, _, [], _, [], hW', trodAll_mk1 (shut_bool Tryz.underlying4 _), (trodAll_cons_mk (Below.trod laidOut (by kernel_rfl) (of_decide_eq_true (by kernel_rfl)) k0 bel lt0) (trodAll_cons_mk (Below.trod laidOut (by kernel_rfl) (of_decide_eq_true (by kernel_rfl)) k1 bel lt1) trodAll_mk0)), rfl, bel.frame _, fun h => by cases h⟩

theorem over : Rows.ratioSumsRow.holds Tryz.pinned (OpenSpec.ofChange Rows.ratioSumsSpec) :=
  OpenClaim.holds_of_wide 3 Tryz.f3 rfl rfl rfl rfl rfl rfl rfl ⟨rfl, rfl, rfl, rfl, rfl⟩ rfl rfl rfl rfl rfl (by kernel_rfl) Tryz.func3 (by kernel_rfl)
    (of_decide_eq_true (by kernel_rfl)) (by unfold Func.isWrapper; first | (rw [if_pos (by decide +kernel)]; kernel_rfl) | (rw [if_neg (by decide +kernel)]; exact ⟨rfl, rfl⟩))
    (fun os started H enc _ => lifted os started H enc)

/-- THE STATEMENT: the tied card -/
theorem proved : Rows.RatioSumsCardSaid :=
  Claim7.holds_tied_plain_at .later [] _ _ _ _ over (fun _ h => by cases h) (by kernel_rfl) (fun _ h => by cases h) ratioSums_row_tie rfl ⟨rfl, rfl⟩ (by kernel_rfl) rfl
    (fun f fn hf hfn => by
      obtain rfl : f = 3 := Option.some.inj ((show Tryz.prog.funcNamed "touchstone/touchstonelaw04.RatioSums" = some 3 by kernel_rfl).symm.trans hf) |>.symm
      obtain rfl : fn = Tryz.f3 := (Option.some.inj (Tryz.func3.symm.trans hfn)).symm
      exact ⟨by kernel_rfl, fun j t ht => by
        rw [Tryz.params3] at ht
        have hm : t ∈ [26, 26] := by simpa using Array.mem_of_getElem? ht
        have hall : ([26, 26].all fun u => !Tryz.prog.wantsStandIn u) = true := by kernel_rfl
        exact (show Tryz.prog.wantsStandIn t = false by simpa using List.all_eq_true.1 hall t hm)⟩)
    (by kernel_rfl)
#print axioms proved
end Go.Proofs.YtbbemgeinlehmaaGreatDoor.ratioSums
