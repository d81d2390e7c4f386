/-
  For every fraction a of layer 4 and every 64-bit number n: the law RatioMakes returns true (Right, Make and Of answer as the document does, where both numbers have at most 8 digits) and leaves a as it was. No condition.
-/
import Derived.Test.YtbbemgeinlehmaaDoorRows
import Derived.Test.YtbbemgeinlehmaaDoorCards
import Derived.Test.YtbbemgeinlehmaaDoorTie
import Derived.LaidMore
import Derived.Lay
import Derived.SevenTiedAt
import Derived.WalkKit
import Derived.ProofKit
import Derived.OpenShut
import Derived.ShutString
import Derived.ChangeOld
import Derived.Below
import Derived.Lib.SmallJoins
import Derived.Test.YtbbemgeinlehmaaDoorOpn
import Derived.Test.YtbbemgeinlehmaaDoorL4a
import Derived.Test.YtbbemgeinlehmaaDoorAl4
import Derived.Test.YtbbemgeinlehmaaDoorTa
import Derived.Test.YtbbemgeinlehmaaDoorR4s
import Derived.Test.YtbbemgeinlehmaaDoorR4m
import Derived.Test.YtbbemgeinlehmaaDoorR4o
import Derived.Test.YtbbemgeinlehmaaDoorFw
import Derived.Test.YtbbemgeinlehmaaDoorRg
import Derived.Deep.RegionHeld3
import Derived.Deep.DeepCutAuto
namespace Go.Proofs.YtbbemgeinlehmaaDoor.ratioMakes
open Go.Joins Go.Proofs.YtbbemgeinlehmaaDoor
open Go.ChangeShapes Go.WideShapes Go.ChangeAt Go.RowKit
open Go.ChangeMaps (open_string shut_string)
open Go.Proofs.YtbbemgeinlehmaaDoor.Dig Go.Proofs.YtbbemgeinlehmaaDoor.R4 Go.Proofs.YtbbemgeinlehmaaDoor.Fr Go.Proofs.YtbbemgeinlehmaaDoor.Ref04
open Go.Proofs.YtbbemgeinlehmaaDoor.Ref03 (sv ngB mag)
set_option linter.unusedVariables false
set_option linter.unusedSimpArgs false

theorem cells26 : Tryd.prog.cellsOf 26 = 4 := by kernel_rfl
theorem cells24 : Tryd.prog.cellsOf 24 = 2 := by kernel_rfl
theorem own : ownKnob Tryd.prog.godebug = none := by kernel_rfl
theorem laidOut : laidOutB Tryd.prog = true := by kernel_rfl

/-- WHAT THE WALK IS TOLD OF A SLICE OF INTEGERS THAT CAME IN: it is nil; or it leads to a row of 'cap' cells, the numbers 'zs' (the first 'len' are its elements, the rest its spare room), each fitting its kind. -/
def IsRow (k : IntKind) (w : World) (a : Option Addr) (len cap : Nat) (zs : List Int) : Prop :=
  (a = none ∧ len = 0 ∧ cap = 0 ∧ zs = []) ∨
  ∃ x, a = some x ∧ len ≤ cap ∧ cap ≤ maxLen ∧ zs.length = cap ∧ (∀ i, i < zs.length → w.cell? (x.add i) = some (.int k (zs.getD i 0))) ∧ ∀ n ∈ zs, (Lit.int k n).wf = true

theorem same_yes (A0 A1 A2 A3 : Option Addr) (c0 c1 c2 c3 : Nat) (na nb : Bool) (xs ys : List Nat) (w : World) (hx : Row w (.slice A0 xs.length c0) xs) (hy : Row w (.slice A1 ys.length c1) ys) (hu : Row w (.slice A2 xs.length c2) xs) (hv : Row w (.slice A3 ys.length c3) ys) (lx : xs.length ≤ 10000) (ly : ys.length ≤ 10000) :
    Calls Tryd.prog 13 #[.agg #[.bool na, .slice A0 xs.length c0, .bool nb, .slice A1 ys.length c1], .agg #[.bool na, .slice A2 xs.length c2, .bool nb, .slice A3 ys.length c3]] w fun e w' => e = .returned (.bool true) ∧ Since w w' := by
  have k := Ref04.same_any A0 A1 A2 A3 c0 c1 c2 c3 na nb na nb xs ys xs ys w hx hy hu hv lx ly lx ly
  rwa [sameF_self] at k
theorem of_at {n : Int} {w : World} {x : Ending} {w' : World} (h : RetFv (ofR n) w x w') :
    ∃ A c B d, x = .returned (.agg #[.bool (ngB n), .slice A (mag n).length c, .bool (ngB 1), .slice B (mag 1).length d]) ∧ Row w' (.slice A (mag n).length c) (mag n) ∧ Row w' (.slice B (mag 1).length d) (mag 1) ∧ Since w w' := h
theorem right_val {P : Program} {f : FuncId} {args : Array Value} {w : World} {r c : Bool} (ns : Calls P f args w fun x w' => x = .returned (.bool r) ∧ Since w w') (h : r = c) :
    Calls P f args w fun x w' => x = .returned (.bool c) ∧ Since w w' := by
  subst h; exact ns

set_option maxRecDepth 100000 in
set_option maxHeartbeats 4000000 in
theorem walk (b0 : Bool) (a0 : Option Addr) (len0 cap0 : Nat) (sg0 : Bool) (ad0 : Option Addr) (ln0 cp0 : Nat) (z0 y0 : List Int) (a1 : Int) (w : World) (w0 : IsRow .u32 w a0 len0 cap0 z0) (u0 : IsRow .u32 w ad0 ln0 cp0 y0) (w1 : (Lit.int .i64 a1).wf = true) :
    Calls Tryd.prog 3 #[.agg #[.bool b0, .slice a0 len0 cap0, .bool sg0, .slice ad0 ln0 cp0], .int .i64 a1] w fun e w' => e = .returned (.bool true) ∧ Since w w' := by
  have B9 := Lib.hid (show -9223372036854775808 ≤ a1 ∧ a1 ≤ 9223372036854775807 by simpa [Lit.wf, IntKind.min, IntKind.max, IntKind.signed, IntKind.bits] using w1)
  clear w1
  obtain ⟨p0, hl0, hr0⟩ := row_in w0
  have P0 := Lib.hid hr0
  obtain ⟨q0, hm0, hs0⟩ := row_in u0
  have Q0 := Lib.hid hs0
  clear w0 u0 hr0 hs0
  subst hl0 hm0
  obtain ⟨W0, hW0⟩ : ∃ W0, W0 = w.alloc (.cells #[.bool b0, .slice a0 p0.length cap0, .bool sg0, .slice ad0 q0.length cp0] 26) := ⟨_, rfl⟩
  have HW := Lib.hid hW0
  have hS0 : Since w W0 := by rw [hW0]; exact (Since.refl w).alloc _
  have hbx : Hid (∀ W : World, Since W0 W → Bx W (w.heap.size) #[.bool b0, .slice a0 p0.length cap0, .bool sg0, .slice ad0 q0.length cp0] 26) := fun W h => Bx.new (hW0 ▸ h) (by simp)
  clear hW0
  have hK := Since.refl W0
  by_cases g : (Law04.few1 ⟨b0, a0, cap0, p0, sg0, ad0, cp0, q0⟩) = true
  rotate_left
  · have HF := Lib.hid (show (Law04.few1 ⟨b0, a0, cap0, p0, sg0, ad0, cp0, q0⟩) = false by simpa using g)
    clear g
    go_enter Tryd.func3, Tryd.ntmps3
    go_wp2_with fail
    rw [← HW.out]
    obtain B0 := hbx.out _ hK; obtain ⟨k0a, k0b, k0c, k0d⟩ := B0.four
    go_wp2_with (first
      | (go_at_call 5; (with_reducible refine (Alive04.alive _).mono ?_); rintro e v0 ⟨rfl, h⟩; have hK := hK.trans h; obtain B0 := hbx.out _ hK; obtain ⟨k0a, k0b, k0c, k0d⟩ := B0.four)
      | (go_at_call 6; (with_reducible refine (Law04.few_one _ _ ⟨b0, a0, cap0, p0, sg0, ad0, cp0, q0⟩).mono ?_); rw [HF.out]; rintro e vf ⟨rfl, h⟩; have hK := hK.trans h; obtain B0 := hbx.out _ hK; obtain ⟨k0a, k0b, k0c, k0d⟩ := B0.four))
    go_ret
    exact ⟨rfl, hS0.trans hK⟩
  have HF := Lib.hid g
  have FW := Lib.hid (show p0.length ≤ 8 ∧ q0.length ≤ 8 by simpa [Law04.few1, and_assoc] using g)
  clear g
  obtain ⟨n1, s1, n2, s2, e1, E1⟩ := parts5 (makeR (b0, p0) (sg0, q0))
  have E1 := Lib.hid E1
  obtain ⟨rr, E2⟩ : ∃ b, rrB ((b0, p0), (sg0, q0)) = b := ⟨_, rfl⟩
  have E2 := Lib.hid E2
  have LA := Lib.hid (show s1.length ≤ 64 ∧ s2.length ≤ 64 from fz_len (makeR_len _ _) E1.out)
  have LM := Lib.hid (show (mag a1).length ≤ 2 from digs_len_le (k := 2) (by have := B9.out; omega))
  go_enter Tryd.func3, Tryd.ntmps3
  go_wp2_with fail
  rw [← HW.out]
  obtain B0 := hbx.out _ hK; obtain ⟨k0a, k0b, k0c, k0d⟩ := B0.four
  go_upto_region 5 with (first
    | (go_at_call 5; (with_reducible refine (Alive04.alive _).mono ?_); rintro e v0 ⟨rfl, h⟩; have hK := hK.trans h; obtain B0 := hbx.out _ hK; obtain ⟨k0a, k0b, k0c, k0d⟩ := B0.four)
    | (go_at_call 6; (with_reducible refine (Law04.few_one _ _ ⟨b0, a0, cap0, p0, sg0, ad0, cp0, q0⟩).mono ?_); rw [HF.out]; rintro e vf ⟨rfl, h⟩; have hK := hK.trans h; obtain B0 := hbx.out _ hK; obtain ⟨k0a, k0b, k0c, k0d⟩ := B0.four))
  have hZ := hK
  have hall : Hid (∀ W : World, Since vf W → W.cell? ⟨w.heap.size, 0, none⟩ = some (.bool b0) ∧ W.cell? ⟨w.heap.size, 1, none⟩ = some (.slice a0 p0.length cap0) ∧ W.cell? ⟨w.heap.size, 2, none⟩ = some (.bool sg0) ∧ W.cell? ⟨w.heap.size, 3, none⟩ = some (.slice ad0 q0.length cp0)) := fun W h => by
    obtain B0 := hbx.out _ (hZ.trans h)
    obtain ⟨k0a, k0b, k0c, k0d⟩ := B0.four
    exact ⟨k0a, k0b, k0c, k0d⟩
  go_cut [5, 6] (fun pP pE W => ∃ (c0 : Nat) (X1 : Option Addr) (x1 : Nat) (Y1 : Option Addr) (y1 : Nat), pP = .pointer (some ⟨c0, 0, none⟩) ∧ pE = .int .i64 e1 ∧ Since vf W ∧ Bx W c0 #[.bool n1, .slice X1 s1.length x1, .bool n2, .slice Y1 s2.length y1] 31 ∧ Row W (.slice X1 s1.length x1) s1 ∧ Row W (.slice Y1 s2.length y1) s2)
  case first =>
    have hr0 : Since vf vf.drew := Since.drew (Since.refl vf)
    refine wp_region_noPanic ?_
    refine Reg.wp_region_G (S := fun W => W.cell? ⟨w.heap.size, 0, none⟩ = some (.bool b0) ∧ W.cell? ⟨w.heap.size, 1, none⟩ = some (.slice a0 p0.length cap0) ∧ W.cell? ⟨w.heap.size, 2, none⟩ = some (.bool sg0) ∧ W.cell? ⟨w.heap.size, 3, none⟩ = some (.slice ad0 q0.length cp0)) (fun j => [6, 7, 8, 9, 11, 12].contains j) (by kernel_rfl) ?_ ?_
    · exact hall.out _ hr0
    refine' Reg.wpG_take (i := 0) (oi := { dst := some 16, op := Op.fieldAddr 26 (Operand.tmp 2) 0, type := 0, pos := "law.go:53", after := #[], guard := none }) (v := _) [1, 2, 5, 6, 7, 8, 9, 11, 12] [6, 7, 8, 9, 11, 12] rfl rfl (by kernel_rfl) (by kernel_rfl) (by kernel_rfl) (by kernel_rfl) (by kernel_rfl) (by kernel_rfl) (by kernel_rfl) (fun _ _ _ h => h) (Or.inl ⟨by rfl, Or.inl ?hy1⟩) ?rest1
    case hy1 => (intro w' kk ss; (try dsimp only at ss); go_simp; first | done | with_reducible rfl)
    try simp only [Act.put, List.setIfInBounds_toArray, List.set_cons_zero, List.set_cons_succ]
    refine' Reg.wpG_take (i := 1) (oi := { dst := some 17, op := Op.load 24 (Operand.tmp 16), type := 24, pos := "law.go:53", after := #[{ on := 0, ground := Ground.data }], guard := none }) (v := _) [2, 5, 6, 7, 8, 9, 11, 12] [6, 7, 8, 9, 11, 12] rfl rfl (by kernel_rfl) (by kernel_rfl) (by kernel_rfl) (by kernel_rfl) (by kernel_rfl) (by kernel_rfl) (by kernel_rfl) (fun _ _ _ h => h) (Or.inl ⟨by rfl, Or.inl ?hy2⟩) ?rest2
    case hy2 => (intro w' kk ss; (try dsimp only at ss); go_simp; first | done | with_reducible rfl)
    try simp only [Act.put, List.setIfInBounds_toArray, List.set_cons_zero, List.set_cons_succ]
    refine Reg.wpG_take (i := 2) (oi := { dst := some 18, op := Op.call { callee := Callee.value (Operand.func 8), args := #[Operand.tmp 17], argTypes := #[24] }, type := 29, pos := "law.go:53", after := #[{ on := 1, ground := Ground.data }], guard := none }) (v := sv b0 (.slice a0 p0.length cap0)) [5, 6, 7, 8, 9, 11, 12] [6, 7, 8, 9, 11, 12] rfl rfl (by kernel_rfl) (by kernel_rfl) (by kernel_rfl) (by kernel_rfl) (by kernel_rfl) (by kernel_rfl) (by kernel_rfl) (fun _ _ _ h => h) (Or.inl ⟨by rfl, Or.inr ⟨8, #[sv b0 (.slice a0 p0.length cap0)], fun w' kk ss => ⟨?_, ?_⟩⟩⟩) ?_
    · (try dsimp only at ss); go_simp
    · exact (Law04.whole_any a0 p0.length cap0 b0 w').mono fun e w'' h => ⟨h.1, h.2, hall.out _ (hr0.trans (kk.trans h.2))⟩
    try simp only [Act.put, List.setIfInBounds_toArray, List.set_cons_zero, List.set_cons_succ]
    refine' Reg.wpG_take (i := 3) (oi := { dst := some 19, op := Op.fieldAddr 26 (Operand.tmp 2) 1, type := 0, pos := "law.go:53", after := #[], guard := none }) (v := _) [4, 5, 6, 7, 8, 9, 11, 12] [6, 7, 8, 9, 11, 12] rfl rfl (by kernel_rfl) (by kernel_rfl) (by kernel_rfl) (by kernel_rfl) (by kernel_rfl) (by kernel_rfl) (by kernel_rfl) (fun _ _ _ h => h) (Or.inl ⟨by rfl, Or.inl ?hy3⟩) ?rest3
    case hy3 => (intro w' kk ss; (try dsimp only at ss); go_simp; first | done | with_reducible rfl)
    try simp only [Act.put, List.setIfInBounds_toArray, List.set_cons_zero, List.set_cons_succ]
    refine' Reg.wpG_take (i := 4) (oi := { dst := some 20, op := Op.load 24 (Operand.tmp 19), type := 24, pos := "law.go:53", after := #[{ on := 3, ground := Ground.data }], guard := none }) (v := _) [5, 6, 7, 8, 9, 11, 12] [6, 7, 8, 9, 11, 12] rfl rfl (by kernel_rfl) (by kernel_rfl) (by kernel_rfl) (by kernel_rfl) (by kernel_rfl) (by kernel_rfl) (by kernel_rfl) (fun _ _ _ h => h) (Or.inl ⟨by rfl, Or.inl ?hy4⟩) ?rest4
    case hy4 => (intro w' kk ss; (try dsimp only at ss); go_simp; first | done | with_reducible rfl)
    try simp only [Act.put, List.setIfInBounds_toArray, List.set_cons_zero, List.set_cons_succ]
    refine Reg.wpG_take (i := 5) (oi := { dst := some 21, op := Op.call { callee := Callee.value (Operand.func 8), args := #[Operand.tmp 20], argTypes := #[24] }, type := 29, pos := "law.go:53", after := #[{ on := 4, ground := Ground.data }, { on := 2, ground := Ground.chain }], guard := none }) (v := sv sg0 (.slice ad0 q0.length cp0)) [6, 7, 8, 9, 11, 12] [6, 7, 8, 9, 11, 12] rfl rfl (by kernel_rfl) (by kernel_rfl) (by kernel_rfl) (by kernel_rfl) (by kernel_rfl) (by kernel_rfl) (by kernel_rfl) (fun _ _ _ h => h) (Or.inl ⟨by rfl, Or.inr ⟨8, #[sv sg0 (.slice ad0 q0.length cp0)], fun w' kk ss => ⟨?_, ?_⟩⟩⟩) ?_
    · (try dsimp only at ss); go_simp
    · exact (Law04.whole_any ad0 q0.length cp0 sg0 w').mono fun e w'' h => ⟨h.1, h.2, hall.out _ (hr0.trans (kk.trans h.2))⟩
    try simp only [Act.put, List.setIfInBounds_toArray, List.set_cons_zero, List.set_cons_succ]
    refine Reg.wpG_ready (rs := [6, 10]) (by kernel_rfl) (by simp) (fun wq1 k1' sq1 => ?_)
    have hr0 := hr0.trans k1'
    have hb : vf.heap.size ≤ wq1.heap.size := hr0.size
    refine Reg.AllG.last (o := { dst := some 22, op := Op.call { callee := Callee.value (Operand.func 7), args := #[Operand.tmp 18, Operand.tmp 21], argTypes := #[29, 29] }, type := 33, pos := "law.go:53", after := #[{ on := 2, ground := Ground.data }, { on := 5, ground := Ground.data }, { on := 5, ground := Ground.chain }], guard := none }) rfl (by rfl) (fun K hK => ?_) (Reg.AllG.first (o := { dst := some 5, op := Op.alloc 31, type := 0, pos := "law.go:53", after := #[], guard := none }) rfl (by rfl) (fun K hK => ?_) Reg.AllG.nil)
    · go_simp
      (with_reducible refine ((Sr04.make_any a0 ad0 cap0 cp0 b0 sg0 p0 q0 wq1 (P0.out.since (hS0.trans (hZ.trans hr0))) (Q0.out.since (hS0.trans (hZ.trans hr0))) (by have := FW.out; omega) (by have := FW.out; omega)).mono fun _ _ h => RetF.at E1.out h).mono ?_)
      rintro e y ⟨X1, x1, Y1, y1, rfl, r1, r2, hx⟩
      have hr0 := hr0.trans hx
      have hb : vf.heap.size ≤ y.heap.size := hr0.size
      refine hK.out _ _ ?_ (fun hHeld => ?_)
      · exact hall.out _ hr0
      clear hK K
      try simp only [Act.put, List.setIfInBounds_toArray, List.set_cons_zero, List.set_cons_succ]
      refine' wpAnyH_take (i := 7) (oi := { dst := some 15, op := Op.move (Operand.tmp 22), type := 33, pos := "law.go:53", after := #[{ on := 6, ground := Ground.data }], guard := none }) (v := _) rfl (by kernel_rfl) (by kernel_rfl) (by kernel_rfl) (fun _ _ _ h => h) (Or.inl ⟨by rfl, ?hy5⟩) (by assumption) ?rest5
      case hy5 => (intro w' ss; (try dsimp only at ss); go_simp; first | done | with_reducible rfl)
      try simp only [Act.put, List.setIfInBounds_toArray, List.set_cons_zero, List.set_cons_succ]
      refine' wpAnyH_take (i := 8) (oi := { dst := some 23, op := Op.extract (Operand.tmp 15) 0, type := 31, pos := "law.go:53", after := #[{ on := 7, ground := Ground.data }], guard := none }) (v := _) rfl (by kernel_rfl) (by kernel_rfl) (by kernel_rfl) (fun _ _ _ h => h) (Or.inl ⟨by rfl, ?hy6⟩) (by assumption) ?rest6
      case hy6 => (intro w' ss; (try dsimp only at ss); go_simp; first | done | with_reducible rfl)
      try simp only [Act.put, List.setIfInBounds_toArray, List.set_cons_zero, List.set_cons_succ]
      refine' wpAnyH_take (i := 9) (oi := { dst := some 24, op := Op.extract (Operand.tmp 15) 1, type := 32, pos := "law.go:53", after := #[{ on := 7, ground := Ground.data }, { on := 11, ground := Ground.gcOnly Departure.lateStores }], guard := none }) (v := _) rfl (by kernel_rfl) (by kernel_rfl) (by kernel_rfl) (fun _ _ _ h => h) (Or.inl ⟨by rfl, ?hy7⟩) (by assumption) ?rest7
      case hy7 => (intro w' ss; (try dsimp only at ss); go_simp; first | done | with_reducible rfl)
      try simp only [Act.put, List.setIfInBounds_toArray, List.set_cons_zero, List.set_cons_succ]
      refine wpAnyH_ready (rs := [10]) (by kernel_rfl) (by simp) ?_
      refine AllReadyH.cons (o := { dst := some 5, op := Op.alloc 31, type := 0, pos := "law.go:53", after := #[], guard := none }) rfl (fun K hK => ?_) AllReadyH.nil
      · go_simp
        refine hK.out _ _ ?_ (fun hHeld => ?_)
        · exact hall.out _ (hr0.trans (since_alloc _ _))
        clear hK K
        try simp only [Act.put, List.setIfInBounds_toArray, List.set_cons_zero, List.set_cons_succ]
        have gb := Bx.fresh y #[.bool false, .slice none 0 0, .bool false, .slice none 0 0] 31
        refine wpAnyH_ready (rs := [11]) (by kernel_rfl) (by simp) ?_
        refine AllReadyH.cons (o := { dst := none, op := Op.store 31 (Operand.tmp 5) (Operand.tmp 23), type := 0, pos := "law.go:53", after := #[{ on := 10, ground := Ground.data }, { on := 8, ground := Ground.data }, { on := 6, ground := Ground.chain }, { on := 0, ground := Ground.phase }, { on := 1, ground := Ground.phase }, { on := 2, ground := Ground.phase }, { on := 3, ground := Ground.phase }, { on := 4, ground := Ground.phase }, { on := 5, ground := Ground.phase }, { on := 6, ground := Ground.phase }, { on := 7, ground := Ground.phase }, { on := 8, ground := Ground.phase }, { on := 9, ground := Ground.textOnly Departure.lateStores }, { on := 10, ground := Ground.phase }], guard := none }) rfl (fun K hK => ?_) AllReadyH.nil
        · obtain ⟨gza, gzb, gzc, gzd⟩ := gb.four
          obtain ⟨fza, fzb, fzc, fzd⟩ := gb.four'
          go_simp
          refine hK.out _ _ ?_ (fun hHeld => ?_)
          · exact hall.out _ (hr0.trans (since_alloc _ _))
          clear hK K
          try simp only [Act.put, List.setIfInBounds_toArray, List.set_cons_zero, List.set_cons_succ]
          refine' wpAnyH_take (i := 12) (oi := { dst := some 6, op := Op.assign (Operand.tmp 24), type := 32, pos := "law.go:53", after := #[{ on := 9, ground := Ground.data }, { on := 11, ground := Ground.chain }, { on := 0, ground := Ground.phase }, { on := 1, ground := Ground.phase }, { on := 2, ground := Ground.phase }, { on := 3, ground := Ground.phase }, { on := 4, ground := Ground.phase }, { on := 5, ground := Ground.phase }, { on := 6, ground := Ground.phase }, { on := 7, ground := Ground.phase }, { on := 8, ground := Ground.phase }, { on := 9, ground := Ground.phase }, { on := 10, ground := Ground.phase }, { on := 11, ground := Ground.phase }], guard := none }) (v := _) rfl (by kernel_rfl) (by kernel_rfl) (by kernel_rfl) (fun _ _ _ h => h) (Or.inl ⟨by rfl, ?hy8⟩) (by assumption) ?rest8
          case hy8 => (intro w' ss; (try dsimp only at ss); go_simp; first | done | with_reducible rfl)
          try simp only [Act.put, List.setIfInBounds_toArray, List.set_cons_zero, List.set_cons_succ]
          refine wpAnyH_done (by kernel_rfl) ?_ _
          refine NoPanic.normal ?_
          go_wp2_with fail
          go_meet
          exact ⟨_, X1, x1, Y1, y1, rfl, rfl, hr0.trans (since_alloc _ _), Bx.fresh _ _ _, r1.since (since_alloc _ _), r2.since (since_alloc _ _)⟩
    · go_simp
      refine hK.out _ _ ?_ (since_alloc _ _) ?_
      · exact hall.out _ (hr0.trans (since_alloc _ _))
      clear hK K
      try simp only [Act.put, List.setIfInBounds_toArray, List.set_cons_zero, List.set_cons_succ]
      have gb := Bx.fresh wq1 #[.bool false, .slice none 0 0, .bool false, .slice none 0 0] 31
      have hr0 := hr0.trans (since_alloc wq1 (.cells #[.bool false, .slice none 0 0, .bool false, .slice none 0 0] 31))
      refine Reg.wpG_ready (rs := [6]) (by kernel_rfl) (by simp) (fun wq2 k2' sq2 => ?_)
      have hr0 := hr0.trans k2'
      have gb := gb.since k2'
      refine Reg.AllG.last (o := { dst := some 22, op := Op.call { callee := Callee.value (Operand.func 7), args := #[Operand.tmp 18, Operand.tmp 21], argTypes := #[29, 29] }, type := 33, pos := "law.go:53", after := #[{ on := 2, ground := Ground.data }, { on := 5, ground := Ground.data }, { on := 5, ground := Ground.chain }], guard := none }) rfl (by rfl) (fun K hK => ?_) Reg.AllG.nil
      go_simp
      (with_reducible refine ((Sr04.make_any a0 ad0 cap0 cp0 b0 sg0 p0 q0 wq2 (P0.out.since (hS0.trans (hZ.trans hr0))) (Q0.out.since (hS0.trans (hZ.trans hr0))) (by have := FW.out; omega) (by have := FW.out; omega)).mono fun _ _ h => RetF.at E1.out h).mono ?_)
      rintro e y ⟨X1, x1, Y1, y1, rfl, r1, r2, hx⟩
      have hr0 := hr0.trans hx
      have gb := gb.since hx
      generalize wq1.heap.size = bq at *
      refine hK.out _ _ ?_ (fun hHeld => ?_)
      · exact hall.out _ hr0
      clear hK K
      try simp only [Act.put, List.setIfInBounds_toArray, List.set_cons_zero, List.set_cons_succ]
      refine' wpAnyH_take (i := 7) (oi := { dst := some 15, op := Op.move (Operand.tmp 22), type := 33, pos := "law.go:53", after := #[{ on := 6, ground := Ground.data }], guard := none }) (v := _) rfl (by kernel_rfl) (by kernel_rfl) (by kernel_rfl) (fun _ _ _ h => h) (Or.inl ⟨by rfl, ?hy9⟩) (by assumption) ?rest9
      case hy9 => (intro w' ss; (try dsimp only at ss); go_simp; first | done | with_reducible rfl)
      try simp only [Act.put, List.setIfInBounds_toArray, List.set_cons_zero, List.set_cons_succ]
      refine' wpAnyH_take (i := 8) (oi := { dst := some 23, op := Op.extract (Operand.tmp 15) 0, type := 31, pos := "law.go:53", after := #[{ on := 7, ground := Ground.data }], guard := none }) (v := _) rfl (by kernel_rfl) (by kernel_rfl) (by kernel_rfl) (fun _ _ _ h => h) (Or.inl ⟨by rfl, ?hy10⟩) (by assumption) ?rest10
      case hy10 => (intro w' ss; (try dsimp only at ss); go_simp; first | done | with_reducible rfl)
      try simp only [Act.put, List.setIfInBounds_toArray, List.set_cons_zero, List.set_cons_succ]
      refine' wpAnyH_take (i := 9) (oi := { dst := some 24, op := Op.extract (Operand.tmp 15) 1, type := 32, pos := "law.go:53", after := #[{ on := 7, ground := Ground.data }, { on := 11, ground := Ground.gcOnly Departure.lateStores }], guard := none }) (v := _) rfl (by kernel_rfl) (by kernel_rfl) (by kernel_rfl) (fun _ _ _ h => h) (Or.inl ⟨by rfl, ?hy11⟩) (by assumption) ?rest11
      case hy11 => (intro w' ss; (try dsimp only at ss); go_simp; first | done | with_reducible rfl)
      try simp only [Act.put, List.setIfInBounds_toArray, List.set_cons_zero, List.set_cons_succ]
      refine wpAnyH_ready (rs := [11]) (by kernel_rfl) (by simp) ?_
      refine AllReadyH.cons (o := { dst := none, op := Op.store 31 (Operand.tmp 5) (Operand.tmp 23), type := 0, pos := "law.go:53", after := #[{ on := 10, ground := Ground.data }, { on := 8, ground := Ground.data }, { on := 6, ground := Ground.chain }, { on := 0, ground := Ground.phase }, { on := 1, ground := Ground.phase }, { on := 2, ground := Ground.phase }, { on := 3, ground := Ground.phase }, { on := 4, ground := Ground.phase }, { on := 5, ground := Ground.phase }, { on := 6, ground := Ground.phase }, { on := 7, ground := Ground.phase }, { on := 8, ground := Ground.phase }, { on := 9, ground := Ground.textOnly Departure.lateStores }, { on := 10, ground := Ground.phase }], guard := none }) rfl (fun K hK => ?_) AllReadyH.nil
      · obtain ⟨gza, gzb, gzc, gzd⟩ := gb.four
        obtain ⟨fza, fzb, fzc, fzd⟩ := gb.four'
        go_simp
        refine hK.out _ _ ?_ (fun hHeld => ?_)
        · exact hall.out _ (since_put4 hr0 hb _ _ _ _)
        clear hK K
        try simp only [Act.put, List.setIfInBounds_toArray, List.set_cons_zero, List.set_cons_succ]
        refine' wpAnyH_take (i := 12) (oi := { dst := some 6, op := Op.assign (Operand.tmp 24), type := 32, pos := "law.go:53", after := #[{ on := 9, ground := Ground.data }, { on := 11, ground := Ground.chain }, { on := 0, ground := Ground.phase }, { on := 1, ground := Ground.phase }, { on := 2, ground := Ground.phase }, { on := 3, ground := Ground.phase }, { on := 4, ground := Ground.phase }, { on := 5, ground := Ground.phase }, { on := 6, ground := Ground.phase }, { on := 7, ground := Ground.phase }, { on := 8, ground := Ground.phase }, { on := 9, ground := Ground.phase }, { on := 10, ground := Ground.phase }, { on := 11, ground := Ground.phase }], guard := none }) (v := _) rfl (by kernel_rfl) (by kernel_rfl) (by kernel_rfl) (fun _ _ _ h => h) (Or.inl ⟨by rfl, ?hy12⟩) (by assumption) ?rest12
        case hy12 => (intro w' ss; (try dsimp only at ss); go_simp; first | done | with_reducible rfl)
        try simp only [Act.put, List.setIfInBounds_toArray, List.set_cons_zero, List.set_cons_succ]
        refine wpAnyH_done (by kernel_rfl) ?_ _
        refine NoPanic.normal ?_
        go_wp2_with fail
        go_meet
        exact ⟨_, X1, x1, Y1, y1, rfl, rfl, since_put4 hr0 hb _ _ _ _, gb.put4 _ _ _ _, gb.rowsR r1 (put4_far _ _ _ _ _ _), gb.rowsR r2 (put4_far _ _ _ _ _ _)⟩
  case rest =>
    obtain ⟨ca, X1, x1, Y1, y1, rfl, rfl, hc, ga, r1, r2⟩ := hcut
    have hS := hZ.trans hc
    have Va : Hid (∀ W', Since wc W' → Bx W' ca #[.bool n1, .slice X1 s1.length x1, .bool n2, .slice Y1 s2.length y1] 31) := fun W' h => ga.since h
    clear hc ga hall hZ
    have hK := Since.refl wc
    have B0 := hbx.out _ (hS.trans hK)
    obtain ⟨k0a, k0b, k0c, k0d⟩ := B0.four
    go_upto_region 7 with (first
      | (go_at_call 9; (with_reducible refine ((Ref04.make_any a0 ad0 cap0 cp0 b0 sg0 p0 q0 _ (P0.out.since (hS0.trans (hS.trans hK))) (Q0.out.since (hS0.trans (hS.trans hK))) (by have := FW.out; omega) (by have := FW.out; omega)).mono fun _ _ h => RetF.at E1.out h).mono ?_); rintro e v5 ⟨X2, x2, Y2, y2, rfl, r3, r4, h⟩; have hK := hK.trans h))
    obtain ⟨W6, hW6⟩ : ∃ W6, W6 = v5.alloc (.cells #[.bool n1, .slice X2 s1.length x2, .bool n2, .slice Y2 s2.length y2] 26) := ⟨_, rfl⟩
    rw [← hW6]
    have hx : Since v5 W6 := by rw [hW6]; exact since_alloc _ _
    have hg := hK.trans hx
    have qbW6 : w.heap.size < v5.heap.size := (hbx.out _ (hS.trans hK)).lt
    have qaW6 : ca < v5.heap.size := (Va.out _ hK).lt
    have Vy : Hid (∀ W', Since W6 W' → Bx W' (v5.heap.size) #[.bool n1, .slice X2 s1.length x2, .bool n2, .slice Y2 s2.length y2] 26) := fun W' h => Bx.new (hW6 ▸ h) (by simp)
    have r1 := r1.since hg
    have r2 := r2.since hg
    have r3 := r3.since hx
    have r4 := r4.since hx
    have Va : Hid (∀ W', Since W6 W' → _) := fun W' h => Va.out W' (hg.trans h)
    have hS := hS.trans hg
    clear hW6 hx hg hK
    generalize v5.heap.size = bkW6 at *
    have hK := Since.refl W6
    have hall : Hid (∀ W : World, Since W6 W → W.cell? ⟨w.heap.size, 0, none⟩ = some (.bool b0) ∧ W.cell? ⟨w.heap.size, 1, none⟩ = some (.slice a0 p0.length cap0) ∧ W.cell? ⟨w.heap.size, 2, none⟩ = some (.bool sg0) ∧ W.cell? ⟨w.heap.size, 3, none⟩ = some (.slice ad0 q0.length cp0) ∧ W.cell? ⟨ca, 0, none⟩ = some (.bool n1) ∧ W.cell? ⟨ca, 1, none⟩ = some (.slice X1 s1.length x1) ∧ W.cell? ⟨ca, 2, none⟩ = some (.bool n2) ∧ W.cell? ⟨ca, 3, none⟩ = some (.slice Y1 s2.length y1) ∧ W.cell? ⟨bkW6, 0, none⟩ = some (.bool n1) ∧ W.cell? ⟨bkW6, 1, none⟩ = some (.slice X2 s1.length x2) ∧ W.cell? ⟨bkW6, 2, none⟩ = some (.bool n2) ∧ W.cell? ⟨bkW6, 3, none⟩ = some (.slice Y2 s2.length y2)) := fun W h => by
      have B0 := hbx.out _ (hS.trans h)
      obtain ⟨k0a, k0b, k0c, k0d⟩ := B0.four
      obtain ⟨aa, ab, ac, ad⟩ := (Va.out _ h).four
      obtain ⟨ya, yb, yc, yd⟩ := (Vy.out _ h).four
      exact ⟨k0a, k0b, k0c, k0d, aa, ab, ac, ad, ya, yb, yc, yd⟩
    have hr0 : Since W6 W6.drew := Since.drew (Since.refl W6)
    have r1 := r1.since hr0
    have r2 := r2.since hr0
    have r3 := r3.since hr0
    have r4 := r4.since hr0
    refine wp_region_noPanic ?_
    refine Reg.wp_region_G (S := fun W => W.cell? ⟨w.heap.size, 0, none⟩ = some (.bool b0) ∧ W.cell? ⟨w.heap.size, 1, none⟩ = some (.slice a0 p0.length cap0) ∧ W.cell? ⟨w.heap.size, 2, none⟩ = some (.bool sg0) ∧ W.cell? ⟨w.heap.size, 3, none⟩ = some (.slice ad0 q0.length cp0) ∧ W.cell? ⟨ca, 0, none⟩ = some (.bool n1) ∧ W.cell? ⟨ca, 1, none⟩ = some (.slice X1 s1.length x1) ∧ W.cell? ⟨ca, 2, none⟩ = some (.bool n2) ∧ W.cell? ⟨ca, 3, none⟩ = some (.slice Y1 s2.length y1) ∧ W.cell? ⟨bkW6, 0, none⟩ = some (.bool n1) ∧ W.cell? ⟨bkW6, 1, none⟩ = some (.slice X2 s1.length x2) ∧ W.cell? ⟨bkW6, 2, none⟩ = some (.bool n2) ∧ W.cell? ⟨bkW6, 3, none⟩ = some (.slice Y2 s2.length y2)) (fun j => [].contains j) (by kernel_rfl) ?_ ?_
    · exact hall.out _ hr0
    refine' Reg.wpG_take (i := 0) (oi := { dst := some 33, op := Op.load 26 (Operand.tmp 2), type := 26, pos := "law.go:55", after := #[], guard := none }) (v := _) [1, 2, 4, 5, 6, 7, 8, 9, 10, 11, 12, 13, 14, 15, 16, 17, 18, 19, 20, 21, 22, 23, 24, 25] [] rfl rfl (by kernel_rfl) (by kernel_rfl) (by kernel_rfl) (by kernel_rfl) (by kernel_rfl) (by kernel_rfl) (by kernel_rfl) (fun _ _ _ h => h) (Or.inl ⟨by rfl, Or.inl ?hy14⟩) ?rest14
    case hy14 => (intro w' kk ss; (try dsimp only at ss); go_simp; first | done | with_reducible rfl)
    try simp only [Act.put, List.setIfInBounds_toArray, List.set_cons_zero, List.set_cons_succ]
    refine Reg.wpG_take (i := 1) (oi := { dst := some 34, op := Op.call { callee := Callee.value (Operand.func 11), args := #[Operand.tmp 33], argTypes := #[26] }, type := 31, pos := "law.go:55", after := #[{ on := 0, ground := Ground.data }], guard := none }) (v := .agg #[.bool b0, .slice a0 p0.length cap0, .bool sg0, .slice ad0 q0.length cp0]) [2, 4, 5, 6, 7, 8, 9, 10, 11, 12, 13, 14, 15, 16, 17, 18, 19, 20, 21, 22, 23, 24, 25] [] rfl rfl (by kernel_rfl) (by kernel_rfl) (by kernel_rfl) (by kernel_rfl) (by kernel_rfl) (by kernel_rfl) (by kernel_rfl) (fun _ _ _ h => h) (Or.inl ⟨by rfl, Or.inr ⟨11, #[.agg #[.bool b0, .slice a0 p0.length cap0, .bool sg0, .slice ad0 q0.length cp0]], fun w' kk ss => ⟨?_, ?_⟩⟩⟩) ?_
    · (try dsimp only at ss); go_simp
    · exact (Law04.theirs_any a0 ad0 p0.length cap0 q0.length cp0 b0 sg0 w').mono fun e w'' h => ⟨h.1, h.2, hall.out _ (hr0.trans (kk.trans h.2))⟩
    try simp only [Act.put, List.setIfInBounds_toArray, List.set_cons_zero, List.set_cons_succ]
    refine Reg.wpG_take (i := 2) (oi := { dst := some 35, op := Op.call { callee := Callee.value (Operand.func 10), args := #[Operand.tmp 34], argTypes := #[31] }, type := 4, pos := "law.go:55", after := #[{ on := 1, ground := Ground.data }, { on := 1, ground := Ground.chain }], guard := none }) (v := .bool rr) [4, 5, 6, 7, 8, 9, 10, 11, 12, 13, 14, 15, 16, 17, 18, 19, 20, 21, 22, 23, 24, 25] [] rfl rfl (by kernel_rfl) (by kernel_rfl) (by kernel_rfl) (by kernel_rfl) (by kernel_rfl) (by kernel_rfl) (by kernel_rfl) (fun _ _ _ h => h) (Or.inl ⟨by rfl, Or.inr ⟨10, #[.agg #[.bool b0, .slice a0 p0.length cap0, .bool sg0, .slice ad0 q0.length cp0]], fun w' kk ss => ⟨?_, ?_⟩⟩⟩) ?_
    · (try dsimp only at ss); go_simp
    · exact (right_val (ns := Sr04.right_any a0 ad0 cap0 cp0 b0 sg0 p0 q0 w' (P0.out.since (hS0.trans (hS.trans (hr0.trans kk)))) (Q0.out.since (hS0.trans (hS.trans (hr0.trans kk)))) (by have := FW.out; omega) (by have := FW.out; omega)) E2.out).mono fun e w'' h => ⟨h.1, h.2, hall.out _ (hr0.trans (kk.trans h.2))⟩
    try simp only [Act.put, List.setIfInBounds_toArray, List.set_cons_zero, List.set_cons_succ]
    refine' Reg.wpG_take (i := 3) (oi := { dst := some 36, op := Op.load 26 (Operand.tmp 2), type := 26, pos := "law.go:55", after := #[], guard := none }) (v := _) [4, 5, 6, 7, 8, 9, 10, 11, 12, 13, 14, 15, 16, 17, 18, 19, 20, 21, 22, 23, 24, 25] [] rfl rfl (by kernel_rfl) (by kernel_rfl) (by kernel_rfl) (by kernel_rfl) (by kernel_rfl) (by kernel_rfl) (by kernel_rfl) (fun _ _ _ h => h) (Or.inl ⟨by rfl, Or.inl ?hy15⟩) ?rest15
    case hy15 => (intro w' kk ss; (try dsimp only at ss); go_simp; first | done | with_reducible rfl)
    try simp only [Act.put, List.setIfInBounds_toArray, List.set_cons_zero, List.set_cons_succ]
    refine Reg.wpG_take (i := 4) (oi := { dst := some 37, op := Op.call { callee := Callee.value (Operand.func 12), args := #[Operand.tmp 36], argTypes := #[26] }, type := 4, pos := "law.go:55", after := #[{ on := 3, ground := Ground.data }, { on := 2, ground := Ground.chain }], guard := none }) (v := .bool rr) [5, 6, 7, 8, 9, 10, 11, 12, 13, 14, 15, 16, 17, 18, 19, 20, 21, 22, 23, 24, 25] [] rfl rfl (by kernel_rfl) (by kernel_rfl) (by kernel_rfl) (by kernel_rfl) (by kernel_rfl) (by kernel_rfl) (by kernel_rfl) (fun _ _ _ h => h) (Or.inl ⟨by rfl, Or.inr ⟨12, #[.agg #[.bool b0, .slice a0 p0.length cap0, .bool sg0, .slice ad0 q0.length cp0]], fun w' kk ss => ⟨?_, ?_⟩⟩⟩) ?_
    · (try dsimp only at ss); go_simp
    · exact (right_val (ns := Ref04.right_any a0 ad0 cap0 cp0 b0 sg0 p0 q0 w' (P0.out.since (hS0.trans (hS.trans (hr0.trans kk)))) (Q0.out.since (hS0.trans (hS.trans (hr0.trans kk)))) (by have := FW.out; omega) (by have := FW.out; omega)) E2.out).mono fun e w'' h => ⟨h.1, h.2, hall.out _ (hr0.trans (kk.trans h.2))⟩
    try simp only [Act.put, List.setIfInBounds_toArray, List.set_cons_zero, List.set_cons_succ]
    refine' Reg.wpG_take (i := 5) (oi := { dst := some 38, op := Op.binOp BinOp.eql 4 (Operand.tmp 35) (Operand.tmp 37) 4, type := 4, pos := "law.go:55", after := #[{ on := 2, ground := Ground.data }, { on := 4, ground := Ground.data }], guard := none }) (v := _) [6, 7, 8, 9, 10, 11, 12, 13, 14, 15, 16, 17, 18, 19, 20, 21, 22, 23, 24, 25] [] rfl rfl (by kernel_rfl) (by kernel_rfl) (by kernel_rfl) (by kernel_rfl) (by kernel_rfl) (by kernel_rfl) (by kernel_rfl) (fun _ _ _ h => h) (Or.inl ⟨by rfl, Or.inl ?hy16⟩) ?rest16
    case hy16 => (intro w' kk ss; (try dsimp only at ss); go_simp; first | done | with_reducible rfl)
    try simp only [Act.put, List.setIfInBounds_toArray, List.set_cons_zero, List.set_cons_succ]
    refine' Reg.wpG_take (i := 6) (oi := { dst := some 39, op := Op.move (Operand.tmp 38), type := 4, pos := "law.go:55", after := #[{ on := 5, ground := Ground.data }, { on := 4, ground := Ground.chain }], guard := none }) (v := _) [7, 8, 9, 10, 11, 12, 13, 14, 15, 16, 17, 18, 19, 20, 21, 22, 23, 24, 25] [] rfl rfl (by kernel_rfl) (by kernel_rfl) (by kernel_rfl) (by kernel_rfl) (by kernel_rfl) (by kernel_rfl) (by kernel_rfl) (fun _ _ _ h => h) (Or.inl ⟨by rfl, Or.inl ?hy17⟩) ?rest17
    case hy17 => (intro w' kk ss; (try dsimp only at ss); go_simp; first | done | with_reducible rfl)
    try simp only [Act.put, List.setIfInBounds_toArray, List.set_cons_zero, List.set_cons_succ]
    refine' Reg.wpG_take (i := 7) (oi := { dst := some 40, op := Op.load 31 (Operand.tmp 5), type := 31, pos := "law.go:55", after := #[{ on := 6, ground := Ground.guard }], guard := some (6, true) }) (v := _) [8, 10, 11, 12, 13, 14, 15, 16, 17, 18, 19, 20, 21, 22, 23, 24, 25] [] rfl rfl (by kernel_rfl) (by kernel_rfl) (by kernel_rfl) (by kernel_rfl) (by kernel_rfl) (by kernel_rfl) (by kernel_rfl) (fun _ _ _ h => h) (Or.inl ⟨by rfl, Or.inl ?hy18⟩) ?rest18
    case hy18 => (intro w' kk ss; (try dsimp only at ss); go_simp; first | done | with_reducible rfl)
    try simp only [Act.put, List.setIfInBounds_toArray, List.set_cons_zero, List.set_cons_succ]
    refine Reg.wpG_take (i := 8) (oi := { dst := some 41, op := Op.call { callee := Callee.value (Operand.func 14), args := #[Operand.tmp 40], argTypes := #[31] }, type := 26, pos := "law.go:55", after := #[{ on := 7, ground := Ground.data }, { on := 6, ground := Ground.chain }, { on := 6, ground := Ground.guard }], guard := some (6, true) }) (v := .agg #[.bool n1, .slice X1 s1.length x1, .bool n2, .slice Y1 s2.length y1]) [10, 11, 12, 13, 14, 15, 16, 17, 18, 19, 20, 21, 22, 23, 24, 25] [] rfl rfl (by kernel_rfl) (by kernel_rfl) (by kernel_rfl) (by kernel_rfl) (by kernel_rfl) (by kernel_rfl) (by kernel_rfl) (fun _ _ _ h => h) (Or.inl ⟨by rfl, Or.inr ⟨14, #[.agg #[.bool n1, .slice X1 s1.length x1, .bool n2, .slice Y1 s2.length y1]], fun w' kk ss => ⟨?_, ?_⟩⟩⟩) ?_
    · (try dsimp only at ss); go_simp
    · exact (Law04.ours_any X1 Y1 s1.length x1 s2.length y1 n1 n2 w').mono fun e w'' h => ⟨h.1, h.2, hall.out _ (hr0.trans (kk.trans h.2))⟩
    try simp only [Act.put, List.setIfInBounds_toArray, List.set_cons_zero, List.set_cons_succ]
    refine' Reg.wpG_take (i := 9) (oi := { dst := some 42, op := Op.load 26 (Operand.tmp 7), type := 26, pos := "law.go:55", after := #[{ on := 6, ground := Ground.guard }], guard := some (6, true) }) (v := _) [10, 11, 12, 13, 14, 15, 16, 17, 18, 19, 20, 21, 22, 23, 24, 25] [] rfl rfl (by kernel_rfl) (by kernel_rfl) (by kernel_rfl) (by kernel_rfl) (by kernel_rfl) (by kernel_rfl) (by kernel_rfl) (fun _ _ _ h => h) (Or.inl ⟨by rfl, Or.inl ?hy19⟩) ?rest19
    case hy19 => (intro w' kk ss; (try dsimp only at ss); go_simp; first | done | with_reducible rfl)
    try simp only [Act.put, List.setIfInBounds_toArray, List.set_cons_zero, List.set_cons_succ]
    refine Reg.wpG_take (i := 10) (oi := { dst := some 43, op := Op.call { callee := Callee.value (Operand.func 13), args := #[Operand.tmp 41, Operand.tmp 42], argTypes := #[26, 26] }, type := 4, pos := "law.go:55", after := #[{ on := 8, ground := Ground.data }, { on := 9, ground := Ground.data }, { on := 8, ground := Ground.chain }, { on := 6, ground := Ground.guard }], guard := some (6, true) }) (v := .bool true) [11, 12, 13, 14, 15, 16, 17, 18, 19, 20, 21, 22, 23, 24, 25] [] rfl rfl (by kernel_rfl) (by kernel_rfl) (by kernel_rfl) (by kernel_rfl) (by kernel_rfl) (by kernel_rfl) (by kernel_rfl) (fun _ _ _ h => h) (Or.inl ⟨by rfl, Or.inr ⟨13, #[.agg #[.bool n1, .slice X1 s1.length x1, .bool n2, .slice Y1 s2.length y1], .agg #[.bool n1, .slice X2 s1.length x2, .bool n2, .slice Y2 s2.length y2]], fun w' kk ss => ⟨?_, ?_⟩⟩⟩) ?_
    · (try dsimp only at ss); go_simp
    · exact (same_yes X1 Y1 X2 Y2 x1 y1 x2 y2 n1 n2 s1 s2 w' (r1.since kk) (r2.since kk) (r3.since kk) (r4.since kk) (by have := LA.out; omega) (by have := LA.out; omega)).mono fun e w'' h => ⟨h.1, h.2, hall.out _ (hr0.trans (kk.trans h.2))⟩
    try simp only [Act.put, List.setIfInBounds_toArray, List.set_cons_zero, List.set_cons_succ]
    refine' Reg.wpG_take (i := 11) (oi := { dst := some 44, op := Op.pick (Operand.tmp 39) (Operand.tmp 43) (Operand.const (Value.bool false)), type := 4, pos := "law.go:55", after := #[{ on := 6, ground := Ground.data }, { on := 10, ground := Ground.data }], guard := none }) (v := _) [12, 13, 14, 15, 16, 17, 18, 19, 20, 21, 22, 23, 24, 25] [] rfl rfl (by kernel_rfl) (by kernel_rfl) (by kernel_rfl) (by kernel_rfl) (by kernel_rfl) (by kernel_rfl) (by kernel_rfl) (fun _ _ _ h => h) (Or.inl ⟨by rfl, Or.inl ?hy20⟩) ?rest20
    case hy20 => (intro w' kk ss; (try dsimp only at ss); go_simp; first | done | with_reducible rfl)
    try simp only [Act.put, List.setIfInBounds_toArray, List.set_cons_zero, List.set_cons_succ]
    refine' Reg.wpG_take (i := 12) (oi := { dst := some 45, op := Op.move (Operand.tmp 44), type := 4, pos := "law.go:55", after := #[{ on := 11, ground := Ground.data }, { on := 10, ground := Ground.chain }], guard := none }) (v := _) [13, 14, 15, 16, 17, 18, 19, 20, 21, 22, 23, 24, 25] [] rfl rfl (by kernel_rfl) (by kernel_rfl) (by kernel_rfl) (by kernel_rfl) (by kernel_rfl) (by kernel_rfl) (by kernel_rfl) (fun _ _ _ h => h) (Or.inl ⟨by rfl, Or.inl ?hy21⟩) ?rest21
    case hy21 => (intro w' kk ss; (try dsimp only at ss); go_simp; first | done | with_reducible rfl)
    try simp only [Act.put, List.setIfInBounds_toArray, List.set_cons_zero, List.set_cons_succ]
    refine' Reg.wpG_take (i := 13) (oi := { dst := some 46, op := Op.move (Operand.tmp 6), type := 32, pos := "law.go:55", after := #[{ on := 12, ground := Ground.guard }], guard := some (12, true) }) (v := _) [15, 16, 17, 18, 19, 20, 21, 22, 23, 24, 25] [] rfl rfl (by kernel_rfl) (by kernel_rfl) (by kernel_rfl) (by kernel_rfl) (by kernel_rfl) (by kernel_rfl) (by kernel_rfl) (fun _ _ _ h => h) (Or.inl ⟨by rfl, Or.inl ?hy22⟩) ?rest22
    case hy22 => (intro w' kk ss; (try dsimp only at ss); go_simp; first | done | with_reducible rfl)
    try simp only [Act.put, List.setIfInBounds_toArray, List.set_cons_zero, List.set_cons_succ]
    refine' Reg.wpG_take (i := 14) (oi := { dst := some 47, op := Op.move (Operand.tmp 8), type := 3, pos := "law.go:55", after := #[{ on := 12, ground := Ground.guard }], guard := some (12, true) }) (v := _) [15, 16, 17, 18, 19, 20, 21, 22, 23, 24, 25] [] rfl rfl (by kernel_rfl) (by kernel_rfl) (by kernel_rfl) (by kernel_rfl) (by kernel_rfl) (by kernel_rfl) (by kernel_rfl) (fun _ _ _ h => h) (Or.inl ⟨by rfl, Or.inl ?hy23⟩) ?rest23
    case hy23 => (intro w' kk ss; (try dsimp only at ss); go_simp; first | done | with_reducible rfl)
    try simp only [Act.put, List.setIfInBounds_toArray, List.set_cons_zero, List.set_cons_succ]
    refine' Reg.wpG_take (i := 15) (oi := { dst := some 48, op := Op.binOp BinOp.eql 3 (Operand.tmp 46) (Operand.tmp 47) 3, type := 4, pos := "law.go:55", after := #[{ on := 13, ground := Ground.data }, { on := 14, ground := Ground.data }, { on := 12, ground := Ground.guard }], guard := some (12, true) }) (v := _) [16, 17, 18, 19, 20, 21, 22, 23, 24, 25] [] rfl rfl (by kernel_rfl) (by kernel_rfl) (by kernel_rfl) (by kernel_rfl) (by kernel_rfl) (by kernel_rfl) (by kernel_rfl) (fun _ _ _ h => h) (Or.inl ⟨by rfl, Or.inl ?hy24⟩) ?rest24
    case hy24 => (intro w' kk ss; (try dsimp only at ss); go_simp; first | done | with_reducible rfl)
    try simp only [Act.put, List.setIfInBounds_toArray, List.set_cons_zero, List.set_cons_succ]
    refine' Reg.wpG_take (i := 16) (oi := { dst := some 49, op := Op.pick (Operand.tmp 45) (Operand.tmp 48) (Operand.const (Value.bool false)), type := 4, pos := "law.go:55", after := #[{ on := 12, ground := Ground.data }, { on := 15, ground := Ground.data }], guard := none }) (v := _) [17, 18, 19, 20, 21, 22, 23, 24, 25] [] rfl rfl (by kernel_rfl) (by kernel_rfl) (by kernel_rfl) (by kernel_rfl) (by kernel_rfl) (by kernel_rfl) (by kernel_rfl) (fun _ _ _ h => h) (Or.inl ⟨by rfl, Or.inl ?hy25⟩) ?rest25
    case hy25 => (intro w' kk ss; (try dsimp only at ss); go_simp; first | done | with_reducible rfl)
    try simp only [Act.put, List.setIfInBounds_toArray, List.set_cons_zero, List.set_cons_succ]
    refine' Reg.wpG_take (i := 17) (oi := { dst := some 50, op := Op.move (Operand.tmp 49), type := 4, pos := "law.go:55", after := #[{ on := 16, ground := Ground.data }, { on := 12, ground := Ground.chain }], guard := none }) (v := _) [18, 19, 20, 21, 22, 23, 24, 25] [] rfl rfl (by kernel_rfl) (by kernel_rfl) (by kernel_rfl) (by kernel_rfl) (by kernel_rfl) (by kernel_rfl) (by kernel_rfl) (fun _ _ _ h => h) (Or.inl ⟨by rfl, Or.inl ?hy26⟩) ?rest26
    case hy26 => (intro w' kk ss; (try dsimp only at ss); go_simp; first | done | with_reducible rfl)
    try simp only [Act.put, List.setIfInBounds_toArray, List.set_cons_zero, List.set_cons_succ]
    refine' Reg.wpG_take (i := 18) (oi := { dst := some 51, op := Op.move (Operand.tmp 1), type := 2, pos := "law.go:55", after := #[{ on := 17, ground := Ground.guard }], guard := some (17, true) }) (v := _) [19, 20, 22, 23, 24, 25] [] rfl rfl (by kernel_rfl) (by kernel_rfl) (by kernel_rfl) (by kernel_rfl) (by kernel_rfl) (by kernel_rfl) (by kernel_rfl) (fun _ _ _ h => h) (Or.inl ⟨by rfl, Or.inl ?hy27⟩) ?rest27
    case hy27 => (intro w' kk ss; (try dsimp only at ss); go_simp; first | done | with_reducible rfl)
    try simp only [Act.put, List.setIfInBounds_toArray, List.set_cons_zero, List.set_cons_succ]
    refine' Reg.wpG_take (i := 21) (oi := { dst := some 54, op := Op.move (Operand.tmp 1), type := 2, pos := "law.go:55", after := #[{ on := 17, ground := Ground.guard }], guard := some (17, true) }) (v := _) [22, 23, 24, 25] [] rfl rfl (by kernel_rfl) (by kernel_rfl) (by kernel_rfl) (by kernel_rfl) (by kernel_rfl) (by kernel_rfl) (by kernel_rfl) (fun _ _ _ h => h) (Or.inl ⟨by rfl, Or.inl ?hy28⟩) ?rest28
    case hy28 => (intro w' kk ss; (try dsimp only at ss); go_simp; first | done | with_reducible rfl)
    try simp only [Act.put, List.setIfInBounds_toArray, List.set_cons_zero, List.set_cons_succ]
    refine Reg.wpG_ready (rs := [19]) (by kernel_rfl) (by simp) (fun wq13001 k13001' sq13001 => ?_)
    have hr0 := hr0.trans k13001'
    have r1 := r1.since k13001'
    have r2 := r2.since k13001'
    have r3 := r3.since k13001'
    have r4 := r4.since k13001'
    refine Reg.AllG.first (o := { dst := some 52, op := Op.call { callee := Callee.value (Operand.func 15), args := #[Operand.tmp 51], argTypes := #[2] }, type := 31, pos := "law.go:55", after := #[{ on := 18, ground := Ground.data }, { on := 17, ground := Ground.chain }, { on := 17, ground := Ground.guard }], guard := some (17, true) }) rfl (by rfl) (fun K hK => ?_) Reg.AllG.nil
    have sq := hall.out _ hr0
    go_simp
    (with_reducible refine ((Sr04.of_any a1 wq13001 B9.out).mono fun _ _ h => of_at h).mono ?_)
    rintro e y13001 ⟨X5, x5, Y5, y5, rfl, r5, r6, hx⟩
    refine hK.out _ _ ?_ hx ?_
    · exact hall.out _ (hr0.trans hx)
    clear hK K sq
    have hr0 := hr0.trans hx
    have r1 := r1.since hx
    have r2 := r2.since hx
    have r3 := r3.since hx
    have r4 := r4.since hx
    clear hx
    try simp only [Act.put, List.setIfInBounds_toArray, List.set_cons_zero, List.set_cons_succ]
    refine Reg.wpG_take (i := 20) (oi := { dst := some 53, op := Op.call { callee := Callee.value (Operand.func 14), args := #[Operand.tmp 52], argTypes := #[31] }, type := 26, pos := "law.go:55", after := #[{ on := 19, ground := Ground.data }, { on := 19, ground := Ground.chain }, { on := 17, ground := Ground.guard }], guard := some (17, true) }) (v := .agg #[.bool (ngB a1), .slice X5 (mag a1).length x5, .bool (ngB 1), .slice Y5 (mag 1).length y5]) [22, 23, 24, 25] [] rfl rfl (by kernel_rfl) (by kernel_rfl) (by kernel_rfl) (by kernel_rfl) (by kernel_rfl) (by kernel_rfl) (by kernel_rfl) (fun _ _ _ h => h) (Or.inl ⟨by rfl, Or.inr ⟨14, #[.agg #[.bool (ngB a1), .slice X5 (mag a1).length x5, .bool (ngB 1), .slice Y5 (mag 1).length y5]], fun w' kk ss => ⟨?_, ?_⟩⟩⟩) ?_
    · (try dsimp only at ss); go_simp
    · exact (Law04.ours_any X5 Y5 (mag a1).length x5 (mag 1).length y5 (ngB a1) (ngB 1) w').mono fun e w'' h => ⟨h.1, h.2, hall.out _ (hr0.trans (kk.trans h.2))⟩
    try simp only [Act.put, List.setIfInBounds_toArray, List.set_cons_zero, List.set_cons_succ]
    refine Reg.wpG_ready (rs := [22]) (by kernel_rfl) (by simp) (fun wq13002 k13002' sq13002 => ?_)
    have hr0 := hr0.trans k13002'
    have r1 := r1.since k13002'
    have r2 := r2.since k13002'
    have r3 := r3.since k13002'
    have r4 := r4.since k13002'
    have r5 := r5.since k13002'
    have r6 := r6.since k13002'
    refine Reg.AllG.first (o := { dst := some 55, op := Op.call { callee := Callee.value (Operand.func 16), args := #[Operand.tmp 54], argTypes := #[2] }, type := 26, pos := "law.go:55", after := #[{ on := 21, ground := Ground.data }, { on := 20, ground := Ground.chain }, { on := 17, ground := Ground.guard }], guard := some (17, true) }) rfl (by rfl) (fun K hK => ?_) Reg.AllG.nil
    have sq := hall.out _ hr0
    go_simp
    (with_reducible refine ((Ref04.of_any a1 wq13002 B9.out).mono fun _ _ h => of_at h).mono ?_)
    rintro e y13002 ⟨X6, x6, Y6, y6, rfl, r7, r8, hx⟩
    refine hK.out _ _ ?_ hx ?_
    · exact hall.out _ (hr0.trans hx)
    clear hK K sq
    have hr0 := hr0.trans hx
    have r1 := r1.since hx
    have r2 := r2.since hx
    have r3 := r3.since hx
    have r4 := r4.since hx
    have r5 := r5.since hx
    have r6 := r6.since hx
    clear hx
    try simp only [Act.put, List.setIfInBounds_toArray, List.set_cons_zero, List.set_cons_succ]
    refine Reg.wpG_take (i := 23) (oi := { dst := some 56, op := Op.call { callee := Callee.value (Operand.func 13), args := #[Operand.tmp 53, Operand.tmp 55], argTypes := #[26, 26] }, type := 4, pos := "law.go:55", after := #[{ on := 20, ground := Ground.data }, { on := 22, ground := Ground.data }, { on := 22, ground := Ground.chain }, { on := 17, ground := Ground.guard }], guard := some (17, true) }) (v := .bool true) [24, 25] [] rfl rfl (by kernel_rfl) (by kernel_rfl) (by kernel_rfl) (by kernel_rfl) (by kernel_rfl) (by kernel_rfl) (by kernel_rfl) (fun _ _ _ h => h) (Or.inl ⟨by rfl, Or.inr ⟨13, #[.agg #[.bool (ngB a1), .slice X5 (mag a1).length x5, .bool (ngB 1), .slice Y5 (mag 1).length y5], .agg #[.bool (ngB a1), .slice X6 (mag a1).length x6, .bool (ngB 1), .slice Y6 (mag 1).length y6]], fun w' kk ss => ⟨?_, ?_⟩⟩⟩) ?_
    · (try dsimp only at ss); go_simp
    · exact (same_yes X5 Y5 X6 Y6 x5 y5 x6 y6 (ngB a1) (ngB 1) (mag a1) (mag 1) w' (r5.since kk) (r6.since kk) (r7.since kk) (r8.since kk) (by have := LM.out; omega) (by decide)).mono fun e w'' h => ⟨h.1, h.2, hall.out _ (hr0.trans (kk.trans h.2))⟩
    try simp only [Act.put, List.setIfInBounds_toArray, List.set_cons_zero, List.set_cons_succ]
    refine' Reg.wpG_take (i := 24) (oi := { dst := some 57, op := Op.pick (Operand.tmp 50) (Operand.tmp 56) (Operand.const (Value.bool false)), type := 4, pos := "law.go:55", after := #[{ on := 17, ground := Ground.data }, { on := 23, ground := Ground.data }], guard := none }) (v := _) [25] [] rfl rfl (by kernel_rfl) (by kernel_rfl) (by kernel_rfl) (by kernel_rfl) (by kernel_rfl) (by kernel_rfl) (by kernel_rfl) (fun _ _ _ h => h) (Or.inl ⟨by rfl, Or.inl ?hy29⟩) ?rest29
    case hy29 => (intro w' kk ss; (try dsimp only at ss); go_simp; first | done | with_reducible rfl)
    try simp only [Act.put, List.setIfInBounds_toArray, List.set_cons_zero, List.set_cons_succ]
    refine' Reg.wpG_take (i := 25) (oi := { dst := some 4, op := Op.assign (Operand.tmp 57), type := 4, pos := "law.go:55", after := #[{ on := 24, ground := Ground.data }, { on := 23, ground := Ground.chain }, { on := 0, ground := Ground.phase }, { on := 1, ground := Ground.phase }, { on := 2, ground := Ground.phase }, { on := 3, ground := Ground.phase }, { on := 4, ground := Ground.phase }, { on := 5, ground := Ground.phase }, { on := 6, ground := Ground.phase }, { on := 7, ground := Ground.phase }, { on := 8, ground := Ground.phase }, { on := 9, ground := Ground.phase }, { on := 10, ground := Ground.phase }, { on := 11, ground := Ground.phase }, { on := 12, ground := Ground.phase }, { on := 13, ground := Ground.phase }, { on := 14, ground := Ground.phase }, { on := 15, ground := Ground.phase }, { on := 16, ground := Ground.phase }, { on := 17, ground := Ground.phase }, { on := 18, ground := Ground.phase }, { on := 19, ground := Ground.phase }, { on := 20, ground := Ground.phase }, { on := 21, ground := Ground.phase }, { on := 22, ground := Ground.phase }, { on := 23, ground := Ground.phase }, { on := 24, ground := Ground.phase }], guard := none }) (v := _) [] [] rfl rfl (by kernel_rfl) (by kernel_rfl) (by kernel_rfl) (by kernel_rfl) (by kernel_rfl) (by kernel_rfl) (by kernel_rfl) (fun _ _ _ h => h) (Or.inl ⟨by rfl, Or.inl ?hy30⟩) ?rest30
    case hy30 => (intro w' kk ss; (try dsimp only at ss); go_simp; first | done | with_reducible rfl)
    try simp only [Act.put, List.setIfInBounds_toArray, List.set_cons_zero, List.set_cons_succ]
    refine Reg.wpG_done (by kernel_rfl) (fun we ke se => ?_) _
    refine NoPanic.normal ?_
    have hr0 := hr0.trans ke
    have r1 := r1.since ke
    have r2 := r2.since ke
    have r3 := r3.since ke
    have r4 := r4.since ke
    have r5 := r5.since ke
    have r6 := r6.since ke
    have r7 := r7.since ke
    have r8 := r8.since ke
    clear ke
    go_wp2_with fail
    go_ret
    exact ⟨rfl, hS0.trans (hS.trans hr0)⟩

set_option maxRecDepth 100000 in
theorem lifted (os : Os) (started : os.Started) (H : Type) (enc : TypeId × Value → H) :
    ReturnsInHanded {} Tryd.checked os 3 .any (fun w args => (Rows.ratioMakesSpec.pre enc Tryd.prog Tryd.f3 Rows.ratioMakesRow.domain false w args ∧ laidMetH Tryd.prog Rows.ratioMakesRow.laid w) ∧ sizedMet enc Tryd.prog Tryd.f3 (OpenSpec.ofChange Rows.ratioMakesSpec) false w args) (Rows.ratioMakesSpec.post enc Tryd.prog Tryd.f3 false true false false) := by
  refine returnsInHanded_of_change_and (C := Tryd.checked) (X := fun w _ => laidMetH Tryd.prog Rows.ratioMakesRow.laid w) (fun _ _ _ hh h => h.of_heap hh) own started (by kernel_rfl) Tryd.func3
    (ChangeSpec.witness_shaped (enc := enc) (C := Tryd.checked) (os := os) (X := fun w _ => laidMetH Tryd.prog Rows.ratioMakesRow.laid w) false (World.laidAll Tryd.prog os Rows.ratioMakesRow.laid) #[.agg #[.bool false, .slice none 0 0, .bool false, .slice none 0 0], .int .i64 0] 8 (World.laidAll_os _ _ _)
      (World.shaped_of_ZipB (by kernel_rfl) (by kernel_rfl)) (by kernel_rfl) (by kernel_rfl) (by kernel_rfl)
      (by rw [MakeChecks.laidMetH_plain _ _ _ (by kernel_rfl)]; exact laidMet_laidAll _ (by kernel_rfl) (by kernel_rfl))) ?_
  intro W base args ds gs before hval0 hW hcnd _ _ _
  have hval : ∀ (j : Nat) t v, Tryd.f3.params[j]? = some t → args[j]? = some v → Value.okWide Tryd.prog W .any base t v := hval0
  have hW' := hW
  obtain ⟨p, q, hA0, hV, rfl, hfz, hnd⟩ := hW
  have hA : DataW.TrodAll enc Tryd.prog W 0 (fun _ => true) true Tryd.f3.params.toList args.toList ds p := hA0
  rw [Tryd.params3] at hA hval
  obtain ⟨v0, vs0, d0, ds0, p0, q0, hargs, rfl, rfl, h0, r0⟩ := trodAll_cons hA
  obtain ⟨v1, vs1, d1, ds1, p1, q1, rfl, rfl, rfl, h1, r1⟩ := trodAll_cons r0
  obtain ⟨rfl, rfl, rfl⟩ := trodAll_nil r1
  obtain rfl : args = #[v0, v1] := by cases args; simp_all
  obtain ⟨rfl, rfl⟩ := trodVars_none hV
  have k0 := h0
  have lt0 : ∀ x ∈ p0, x.block < W.heap.size := by obtain ⟨m, hm⟩ := k0; exact DataW.trod_lt m _ _ _ hm
  obtain ⟨cb0, cm0, ce0, cr0, yb0, ym0, ye0, yr0, nn0, mm0, rfl, hb0, hm0, he0, hr0⟩ := open_rat Tryd.underlying26 Tryd.underlying24 Tryd.underlying24 rfl rfl cells26 cells24 cells24 (by kernel_rfl) (hval 0 26 v0 rfl rfl) h0
  obtain ⟨b0, ebb0, xbb0⟩ := DataW.trod_bool Tryd.underlying4 hb0
  simp at ebb0
  subst ebb0
  obtain ⟨sg0, ebsg0, xbsg0⟩ := DataW.trod_bool Tryd.underlying4 he0
  simp at ebsg0
  subst ebsg0
  obtain ⟨a0, len0, cap0, em0⟩ := slice_form Tryd.underlying22 hm0
  simp at em0
  subst em0
  obtain ⟨ad0, ln0, cp0, er0⟩ := slice_form Tryd.underlying22 hr0
  simp at er0
  subst er0
  obtain ⟨z0, w0⟩ : ∃ zs, IsRow .u32 W a0 len0 cap0 zs := by
    have hf := hm0
    rcases open_ints Tryd.underlying22 Tryd.underlying83 (by kernel_rfl) hf with ⟨hcs, _⟩ | ⟨x, l, c, zs, hcs, _, hl, hm, hz, _, hcell, hwz⟩
    · simp [Value.cells] at hcs
      obtain ⟨rfl, rfl, rfl⟩ := hcs
      exact ⟨[], .inl ⟨rfl, rfl, rfl, rfl⟩⟩
    · simp [Value.cells] at hcs
      obtain ⟨rfl, rfl, rfl⟩ := hcs
      exact ⟨zs, .inr ⟨_, rfl, hl, hm, by simpa using hz, hcell, hwz⟩⟩
  obtain ⟨y0, u0⟩ : ∃ zs, IsRow .u32 W ad0 ln0 cp0 zs := by
    have hf := hr0
    rcases open_ints Tryd.underlying22 Tryd.underlying83 (by kernel_rfl) hf with ⟨hcs, _⟩ | ⟨x, l, c, zs, hcs, _, hl, hm, hz, _, hcell, hwz⟩
    · simp [Value.cells] at hcs
      obtain ⟨rfl, rfl, rfl⟩ := hcs
      exact ⟨[], .inl ⟨rfl, rfl, rfl, rfl⟩⟩
    · simp [Value.cells] at hcs
      obtain ⟨rfl, rfl, rfl⟩ := hcs
      exact ⟨zs, .inr ⟨_, rfl, hl, hm, by simpa using hz, hcell, hwz⟩⟩
  obtain ⟨a1, rfl, rfl, rfl, w1⟩ := open_int Tryd.underlying2 (hval 1 2 v1 rfl rfl) h1
  clear hA0 hval0
  refine (walk b0 a0 len0 cap0 sg0 ad0 ln0 cp0 z0 y0 a1 W w0 u0 w1).mono fun e W' ⟨he, bel⟩ => ?_
  subst he
  exact ⟨_, rfl, _, _, _, [], _, [], hW', trodAll_mk1 (shut_bool Tryd.underlying4 _), (trodAll_cons_mk (Below.trod laidOut (by kernel_rfl) (of_decide_eq_true (by kernel_rfl)) k0 bel lt0) (trodAll_cons_mk (shut_int Tryd.underlying2 w1) trodAll_mk0)), rfl, bel.frame _, fun h => by cases h⟩

theorem over : Rows.ratioMakesRow.holds Tryd.pinned (OpenSpec.ofChange Rows.ratioMakesSpec) :=
  OpenClaim.holds_of_wide 3 Tryd.f3 rfl rfl rfl rfl rfl rfl rfl ⟨rfl, rfl, rfl, rfl, rfl⟩ rfl rfl rfl rfl rfl (by kernel_rfl) Tryd.func3 (by kernel_rfl)
    (of_decide_eq_true (by kernel_rfl)) (by unfold Func.isWrapper; first | (rw [if_pos (by decide +kernel)]; kernel_rfl) | (rw [if_neg (by decide +kernel)]; exact ⟨rfl, rfl⟩))
    (fun os started H enc _ => lifted os started H enc)

/-- THE STATEMENT: the tied card -/
theorem proved : Rows.RatioMakesCardSaid :=
  Claim7.holds_tied_plain_at .later [] _ _ _ _ over (fun _ h => by cases h) (by kernel_rfl) (fun _ h => by cases h) ratioMakes_row_tie rfl ⟨rfl, rfl⟩ (by kernel_rfl) rfl
    (fun f fn hf hfn => by
      obtain rfl : f = 3 := Option.some.inj ((show Tryd.prog.funcNamed "touchstone/touchstonelaw04.RatioMakes" = some 3 by kernel_rfl).symm.trans hf) |>.symm
      obtain rfl : fn = Tryd.f3 := (Option.some.inj (Tryd.func3.symm.trans hfn)).symm
      exact ⟨by kernel_rfl, fun j t ht => by
        rw [Tryd.params3] at ht
        have hm : t ∈ [26, 2] := by simpa using Array.mem_of_getElem? ht
        have hall : ([26, 2].all fun u => !Tryd.prog.wantsStandIn u) = true := by kernel_rfl
        exact (show Tryd.prog.wantsStandIn t = false by simpa using List.all_eq_true.1 hall t hm)⟩)
    (by kernel_rfl)
#print axioms proved
end Go.Proofs.YtbbemgeinlehmaaDoor.ratioMakes
