/-
  For all 32-bit numbers a and b: the law RatioWhole returns true (whole numbers are added, multiplied and compared as such, and are their own parts that are rounded). No condition.
-/
import Derived.Test.YtbbemgeinlehmaaDoorRows
import Derived.Test.YtbbemgeinlehmaaDoorCards
import Derived.Test.YtbbemgeinlehmaaDoorTie
import Derived.LaidMore
import Derived.Lay
import Derived.SevenTiedAt
import Derived.WalkKit
import Derived.ProofKit
import Derived.OpenShut
import Derived.ShutString
import Derived.Test.YtbbemgeinlehmaaDoorL4a
import Derived.Test.YtbbemgeinlehmaaDoorAl4
import Derived.Test.YtbbemgeinlehmaaDoorSr4ad
import Derived.Test.YtbbemgeinlehmaaDoorSr4mu
import Derived.Test.YtbbemgeinlehmaaDoorSr4cm
import Derived.Test.YtbbemgeinlehmaaDoorTa
import Derived.Test.YtbbemgeinlehmaaDoorSr4ce
import Derived.Test.YtbbemgeinlehmaaDoorSb
import Derived.Test.YtbbemgeinlehmaaDoorR4s
import Derived.Test.YtbbemgeinlehmaaDoorR4o
import Derived.Test.YtbbemgeinlehmaaDoorFw
import Derived.Test.YtbbemgeinlehmaaDoorOpn
import Derived.Deep.RegionHeld3
import Derived.Deep.DeepCutAuto
namespace Go.Proofs.YtbbemgeinlehmaaDoor.ratioWhole
open Go.ChangeShapes Go.WideShapes Go.ChangeAt Go.RowKit
open Go.ChangeMaps (open_string shut_string)
open Go.Proofs.YtbbemgeinlehmaaDoor.Dig Go.Proofs.YtbbemgeinlehmaaDoor.R4 Go.Proofs.YtbbemgeinlehmaaDoor.Fr Go.Proofs.YtbbemgeinlehmaaDoor.Ref04
open Go.Proofs.YtbbemgeinlehmaaDoor.Ref03 (sv ngB mag)
set_option linter.unusedVariables false

theorem own : ownKnob Tryd.prog.godebug = none := by kernel_rfl

theorem cmp_val {P : Program} {f : FuncId} {args : Array Value} {w : World} {r : Int × Int} {c e : Int} (ns : Calls P f args w fun x w' => x = .returned (.tuple #[.int .i64 r.1, .int .i64 r.2]) ∧ Since w w') (h : r = (c, e)) :
    Calls P f args w fun x w' => x = .returned (.tuple #[.int .i64 c, .int .i64 e]) ∧ Since w w' := by
  subst h; exact ns
theorem same_yes (A0 A1 A2 A3 : Option Addr) (c0 c1 c2 c3 : Nat) (na nb : Bool) (xs ys : List Nat) (w : World) (hx : Row w (.slice A0 xs.length c0) xs) (hy : Row w (.slice A1 ys.length c1) ys) (hu : Row w (.slice A2 xs.length c2) xs) (hv : Row w (.slice A3 ys.length c3) ys) (lx : xs.length ≤ 10000) (ly : ys.length ≤ 10000) :
    Calls Tryd.prog 13 #[.agg #[.bool na, .slice A0 xs.length c0, .bool nb, .slice A1 ys.length c1], .agg #[.bool na, .slice A2 xs.length c2, .bool nb, .slice A3 ys.length c3]] w fun e w' => e = .returned (.bool true) ∧ Since w w' := by
  have k := Ref04.same_any A0 A1 A2 A3 c0 c1 c2 c3 na nb na nb xs ys xs ys w hx hy hu hv lx ly lx ly
  rwa [sameF_self] at k
theorem of_at {n : Int} {w : World} {x : Ending} {w' : World} (h : RetFv (ofR n) w x w') :
    ∃ A c B d, x = .returned (.agg #[.bool (ngB n), .slice A (mag n).length c, .bool (ngB 1), .slice B (mag 1).length d]) ∧ Row w' (.slice A (mag n).length c) (mag n) ∧ Row w' (.slice B (mag 1).length d) (mag 1) ∧ Since w w' := h
theorem wrap_small {n : Int} (h : -9223372036854775808 ≤ n ∧ n ≤ 9223372036854775807) : IntKind.i64.wrap n = n := by
  simp [IntKind.wrap, IntKind.signed, IntKind.bits]; omega
theorem mul_range {a b : Int} (ha : -2147483648 ≤ a ∧ a ≤ 2147483647) (hb : -2147483648 ≤ b ∧ b ≤ 2147483647) : -9223372036854775808 ≤ a * b ∧ a * b ≤ 9223372036854775807 := by
  have h1 : (a * b).natAbs ≤ 2147483648 * 2147483648 := by
    rw [Int.natAbs_mul]; exact Nat.mul_le_mul (by omega) (by omega)
  omega
theorem mag_two {n : Int} (h : -9223372036854775808 ≤ n ∧ n ≤ 9223372036854775807) : (mag n).length ≤ 2 := digs_len_le (k := 2) (by omega)
theorem cmp_three {a b c : Int} (h : cmpI a b = c) : (c = -1 ∧ decide (a < b) = true ∧ decide (b < a) = false) ∨ (c = 0 ∧ decide (a < b) = false ∧ decide (b < a) = false) ∨ (c = 1 ∧ decide (a < b) = false ∧ decide (b < a) = true) := by
  subst h; unfold cmpI
  by_cases h1 : a < b
  · left; rw [if_pos h1]; simp [h1]; omega
  · by_cases h2 : b < a
    · right; right; rw [if_neg h1, if_pos h2]; simp [h1, h2]
    · right; left; rw [if_neg h1, if_neg h2]; simp [h1, h2]

set_option maxRecDepth 100000 in
set_option maxHeartbeats 4000000 in
theorem walk (a0 : Int) (a1 : Int) (w0 : (Lit.int .i32 a0).wf = true) (w1 : (Lit.int .i32 a1).wf = true) (w : World) :
    Calls Tryd.prog 4 #[.int .i32 a0, .int .i32 a1] w fun e w' => e = .returned (.bool true) ∧ Since w w' := by
  have h0 : -2147483648 ≤ a0 ∧ a0 ≤ 2147483647 := by simpa [Lit.wf, IntKind.min, IntKind.max, IntKind.signed, IntKind.bits] using w0
  have h1 : -2147483648 ≤ a1 ∧ a1 ≤ 2147483647 := by simpa [Lit.wf, IntKind.min, IntKind.max, IntKind.signed, IntKind.bits] using w1
  have hm := mul_range h0 h1
  have c0 : IntKind.i64.wrap a0 = a0 := wrap_small (by omega)
  have c1 : IntKind.i64.wrap a1 = a1 := wrap_small (by omega)
  have c2 : IntKind.i64.wrap (a0 + a1) = a0 + a1 := wrap_small (by omega)
  have c3 : IntKind.i64.wrap (a0 * a1) = a0 * a1 := wrap_small hm
  obtain ⟨E1, E2, E3, E4, E5, E6, _⟩ := whole_fracs h0 h1
  have B0 := Lib.hid (show -9223372036854775808 ≤ a0 ∧ a0 ≤ 9223372036854775807 by omega)
  have B1 := Lib.hid (show -9223372036854775808 ≤ a1 ∧ a1 ≤ 9223372036854775807 by omega)
  have B2 := Lib.hid (show -9223372036854775808 ≤ a0 + a1 ∧ a0 + a1 ≤ 9223372036854775807 by omega)
  have B3 := Lib.hid hm
  have L0 := Lib.hid (mag_two B0.out)
  have L1 := Lib.hid (mag_two B1.out)
  have L2 := Lib.hid (mag_two B2.out)
  have L3 := Lib.hid (mag_two B3.out)
  have E1 := Lib.hid (show addR ((ngB a0, mag a0), (ngB 1, mag 1)) ((ngB a1, mag a1), (ngB 1, mag 1)) = (((ngB (a0 + a1), mag (a0 + a1)), (ngB 1, mag 1)), 0) from E1)
  have E2 := Lib.hid (show mulR ((ngB a0, mag a0), (ngB 1, mag 1)) ((ngB a1, mag a1), (ngB 1, mag 1)) = (((ngB (a0 * a1), mag (a0 * a1)), (ngB 1, mag 1)), 0) from E2)
  have E4 := Lib.hid (show floorR ((ngB a0, mag a0), (ngB 1, mag 1)) = ((ngB a0, mag a0), 0) from E4)
  have E5 := Lib.hid (show ceilR ((ngB a0, mag a0), (ngB 1, mag 1)) = ((ngB a0, mag a0), 0) from E5)
  have E6 := Lib.hid E6
  obtain ⟨c, E3⟩ : ∃ c, cmpR ((ngB a0, mag a0), (ngB 1, mag 1)) ((ngB a1, mag a1), (ngB 1, mag 1)) = (c, 0) ∧ cmpI a0 a1 = c := ⟨_, E3, rfl⟩
  have EC := Lib.hid E3.1
  have hc : (c = -1 ∧ decide (a0 < a1) = true ∧ decide (a1 < a0) = false) ∨ (c = 0 ∧ decide (a0 < a1) = false ∧ decide (a1 < a0) = false) ∨ (c = 1 ∧ decide (a0 < a1) = false ∧ decide (a1 < a0) = true) := cmp_three E3.2
  have HC := Lib.hid hc
  clear E3 hc hm w0 w1 h0 h1
  have hK := Since.refl w
  go_enter Tryd.func4, Tryd.ntmps4
  go_upto_region 3 with (first
    | (go_at_call 5; (with_reducible refine (Alive04.alive _).mono ?_); rintro e v0 ⟨rfl, h⟩; have hK := hK.trans h))
  have hS := hK
  have hK := Since.refl v0
  go_upto_region 4 with (first
    | (go_at_call 15; (with_reducible refine ((Sr04.of_any a0 _ B0.out).mono fun _ _ h => of_at h).mono ?_); rintro e vx ⟨X0, x0, Y0, y0, rfl, r0, r1, h⟩; have hK := hK.trans h)
    | (go_at_call 15; (with_reducible refine ((Sr04.of_any a1 _ B1.out).mono fun _ _ h => of_at h).mono ?_); rintro e vy ⟨X1, x1, Y1, y1, rfl, r2, r3, h⟩; have r0 := r0.since h; have r1 := r1.since h; have hK := hK.trans h))
  obtain ⟨W3, hW3⟩ : ∃ W3, W3 = (vy.alloc (.cells #[.bool (ngB a0), .slice X0 (mag a0).length x0, .bool (ngB 1), .slice Y0 (mag 1).length y0] 31)).alloc (.cells #[.bool (ngB a1), .slice X1 (mag a1).length x1, .bool (ngB 1), .slice Y1 (mag 1).length y1] 31) := ⟨_, rfl⟩
  rw [← hW3]
  have hx : Since vy W3 := by rw [hW3]; exact (since_alloc _ _).trans (since_alloc _ _)
  have hg := hK.trans hx
  have Vx : Hid (∀ W', Since W3 W' → Bx W' (vy.heap.size) #[.bool (ngB a0), .slice X0 (mag a0).length x0, .bool (ngB 1), .slice Y0 (mag 1).length y0] 31) := fun W' h => Bx.new ((since_alloc _ _).trans (hW3 ▸ h)) (by simp)
  have Vy : Hid (∀ W', Since W3 W' → Bx W' (vy.heap.size + 1) #[.bool (ngB a1), .slice X1 (mag a1).length x1, .bool (ngB 1), .slice Y1 (mag 1).length y1] 31) := fun W' h => Bx.new (hW3 ▸ h) (by simp)
  have r0 := r0.since hx
  have r1 := r1.since hx
  have r2 := r2.since hx
  have r3 := r3.since hx
  have hS := hS.trans hg
  clear hW3 hx hg hK
  generalize vy.heap.size = bkW3 at *
  have hK := Since.refl W3
  obtain ⟨vxa, vxb, vxc, vxd⟩ := (Vx.out _ hK).four
  obtain ⟨vya, vyb, vyc, vyd⟩ := (Vy.out _ hK).four
  go_upto_region 5 with (first
    | (go_at_call 17; (with_reducible refine ((Sr04.add_any X0 Y0 X1 Y1 x0 y0 x1 y1 (ngB a0) (ngB 1) (ngB a1) (ngB 1) (mag a0) (mag 1) (mag a1) (mag 1) _ (r0.since hK) (r1.since hK) (r2.since hK) (r3.since hK) (by have := L0.out; omega) (by decide) (by have := L1.out; omega) (by decide)).mono fun _ _ h => RetF.at E1.out h).mono ?_); rintro e v4 ⟨X2, x2, Y2, y2, rfl, r4, r5, h⟩; have hK := hK.trans h))
  obtain ⟨W4, hW4⟩ : ∃ W4, W4 = v4.alloc (.cells #[.bool (ngB (a0 + a1)), .slice X2 (mag (a0 + a1)).length x2, .bool (ngB 1), .slice Y2 (mag 1).length y2] 31) := ⟨_, rfl⟩
  rw [← hW4]
  have hx : Since v4 W4 := by rw [hW4]; exact since_alloc _ _
  have hg := hK.trans hx
  have qxW4 : bkW3 < v4.heap.size := (Vx.out _ hK).lt
  have qyW4 : bkW3 + 1 < v4.heap.size := (Vy.out _ hK).lt
  have Vs : Hid (∀ W', Since W4 W' → Bx W' (v4.heap.size) #[.bool (ngB (a0 + a1)), .slice X2 (mag (a0 + a1)).length x2, .bool (ngB 1), .slice Y2 (mag 1).length y2] 31) := fun W' h => Bx.new (hW4 ▸ h) (by simp)
  have r0 := r0.since hg
  have r1 := r1.since hg
  have r2 := r2.since hg
  have r3 := r3.since hg
  have r4 := r4.since hx
  have r5 := r5.since hx
  have Vx : Hid (∀ W', Since W4 W' → _) := fun W' h => Vx.out W' (hg.trans h)
  have Vy : Hid (∀ W', Since W4 W' → _) := fun W' h => Vy.out W' (hg.trans h)
  have hS := hS.trans hg
  clear hW4 hx hg hK
  generalize v4.heap.size = bkW4 at *
  have hK := Since.refl W4
  obtain ⟨vxa, vxb, vxc, vxd⟩ := (Vx.out _ hK).four
  obtain ⟨vya, vyb, vyc, vyd⟩ := (Vy.out _ hK).four
  go_upto_region 6 with (first
    | (go_at_call 18; (with_reducible refine ((Sr04.mul_any X0 Y0 X1 Y1 x0 y0 x1 y1 (ngB a0) (ngB 1) (ngB a1) (ngB 1) (mag a0) (mag 1) (mag a1) (mag 1) _ (r0.since hK) (r1.since hK) (r2.since hK) (r3.since hK) (by have := L0.out; omega) (by decide) (by have := L1.out; omega) (by decide)).mono fun _ _ h => RetF.at E2.out h).mono ?_); rintro e v5 ⟨X3, x3, Y3, y3, rfl, r6, r7, h⟩; have hK := hK.trans h))
  obtain ⟨W5, hW5⟩ : ∃ W5, W5 = v5.alloc (.cells #[.bool (ngB (a0 * a1)), .slice X3 (mag (a0 * a1)).length x3, .bool (ngB 1), .slice Y3 (mag 1).length y3] 31) := ⟨_, rfl⟩
  rw [← hW5]
  have hx : Since v5 W5 := by rw [hW5]; exact since_alloc _ _
  have hg := hK.trans hx
  have qxW5 : bkW3 < v5.heap.size := (Vx.out _ hK).lt
  have qyW5 : bkW3 + 1 < v5.heap.size := (Vy.out _ hK).lt
  have qsW5 : bkW4 < v5.heap.size := (Vs.out _ hK).lt
  have Vp : Hid (∀ W', Since W5 W' → Bx W' (v5.heap.size) #[.bool (ngB (a0 * a1)), .slice X3 (mag (a0 * a1)).length x3, .bool (ngB 1), .slice Y3 (mag 1).length y3] 31) := fun W' h => Bx.new (hW5 ▸ h) (by simp)
  have r0 := r0.since hg
  have r1 := r1.since hg
  have r2 := r2.since hg
  have r3 := r3.since hg
  have r4 := r4.since hg
  have r5 := r5.since hg
  have r6 := r6.since hx
  have r7 := r7.since hx
  have Vx : Hid (∀ W', Since W5 W' → _) := fun W' h => Vx.out W' (hg.trans h)
  have Vy : Hid (∀ W', Since W5 W' → _) := fun W' h => Vy.out W' (hg.trans h)
  have Vs : Hid (∀ W', Since W5 W' → _) := fun W' h => Vs.out W' (hg.trans h)
  have hS := hS.trans hg
  clear hW5 hx hg hK
  generalize v5.heap.size = bkW5 at *
  have hK := Since.refl W5
  obtain ⟨vxa, vxb, vxc, vxd⟩ := (Vx.out _ hK).four
  obtain ⟨vya, vyb, vyc, vyd⟩ := (Vy.out _ hK).four
  go_upto_region 8 with (first
    | (go_at_call 19; (with_reducible refine (cmp_val (ns := Sr04.cmp_any X0 Y0 X1 Y1 x0 y0 x1 y1 (ngB a0) (ngB 1) (ngB a1) (ngB 1) (mag a0) (mag 1) (mag a1) (mag 1) _ (r0.since hK) (r1.since hK) (r2.since hK) (r3.since hK) (by have := L0.out; omega) (by decide) (by have := L1.out; omega) (by decide)) EC.out).mono ?_); rintro e v6 ⟨rfl, h⟩; have hK := hK.trans h; obtain ⟨vxa, vxb, vxc, vxd⟩ := (Vx.out _ hK).four; obtain ⟨vya, vyb, vyc, vyd⟩ := (Vy.out _ hK).four)
    | (go_at_call 20; (with_reducible refine ((Sr04.floor_any X0 Y0 x0 y0 (ngB a0) (ngB 1) (mag a0) (mag 1) _ (r0.since hK) (r1.since hK) (by have := L0.out; omega) (by decide)).mono fun _ _ h => RetN.at E4.out h).mono ?_); rintro e v7 ⟨X4, x4, rfl, r8, h⟩; have hK := hK.trans h))
  obtain ⟨W7, hW7⟩ : ∃ W7, W7 = v7.alloc (.cells #[.bool (ngB a0), .slice X4 (mag a0).length x4] 29) := ⟨_, rfl⟩
  rw [← hW7]
  have hx : Since v7 W7 := by rw [hW7]; exact since_alloc _ _
  have hg := hK.trans hx
  have qxW7 : bkW3 < v7.heap.size := (Vx.out _ hK).lt
  have qyW7 : bkW3 + 1 < v7.heap.size := (Vy.out _ hK).lt
  have qsW7 : bkW4 < v7.heap.size := (Vs.out _ hK).lt
  have qpW7 : bkW5 < v7.heap.size := (Vp.out _ hK).lt
  have Vn : Hid (∀ W', Since W7 W' → Bx W' (v7.heap.size) #[.bool (ngB a0), .slice X4 (mag a0).length x4] 29) := fun W' h => Bx.new (hW7 ▸ h) (by simp)
  have r0 := r0.since hg
  have r1 := r1.since hg
  have r2 := r2.since hg
  have r3 := r3.since hg
  have r4 := r4.since hg
  have r5 := r5.since hg
  have r6 := r6.since hg
  have r7 := r7.since hg
  have r8 := r8.since hx
  have Vx : Hid (∀ W', Since W7 W' → _) := fun W' h => Vx.out W' (hg.trans h)
  have Vy : Hid (∀ W', Since W7 W' → _) := fun W' h => Vy.out W' (hg.trans h)
  have Vs : Hid (∀ W', Since W7 W' → _) := fun W' h => Vs.out W' (hg.trans h)
  have Vp : Hid (∀ W', Since W7 W' → _) := fun W' h => Vp.out W' (hg.trans h)
  have hS := hS.trans hg
  clear hW7 hx hg hK
  generalize v7.heap.size = bkW7 at *
  have hK := Since.refl W7
  obtain ⟨vxa, vxb, vxc, vxd⟩ := (Vx.out _ hK).four
  go_upto_region 9 with (first
    | (go_at_call 21; (with_reducible refine ((Sr04.ceil_any X0 Y0 x0 y0 (ngB a0) (ngB 1) (mag a0) (mag 1) _ (r0.since hK) (r1.since hK) (by have := L0.out; omega) (by decide)).mono fun _ _ h => RetN.at E5.out h).mono ?_); rintro e v8 ⟨X5, x5, rfl, r9, h⟩; have hK := hK.trans h))
  obtain ⟨W8, hW8⟩ : ∃ W8, W8 = v8.alloc (.cells #[.bool (ngB a0), .slice X5 (mag a0).length x5] 29) := ⟨_, rfl⟩
  rw [← hW8]
  have hx : Since v8 W8 := by rw [hW8]; exact since_alloc _ _
  have hg := hK.trans hx
  have qxW8 : bkW3 < v8.heap.size := (Vx.out _ hK).lt
  have qyW8 : bkW3 + 1 < v8.heap.size := (Vy.out _ hK).lt
  have qsW8 : bkW4 < v8.heap.size := (Vs.out _ hK).lt
  have qpW8 : bkW5 < v8.heap.size := (Vp.out _ hK).lt
  have qnW8 : bkW7 < v8.heap.size := (Vn.out _ hK).lt
  have Vm : Hid (∀ W', Since W8 W' → Bx W' (v8.heap.size) #[.bool (ngB a0), .slice X5 (mag a0).length x5] 29) := fun W' h => Bx.new (hW8 ▸ h) (by simp)
  have r0 := r0.since hg
  have r1 := r1.since hg
  have r2 := r2.since hg
  have r3 := r3.since hg
  have r4 := r4.since hg
  have r5 := r5.since hg
  have r6 := r6.since hg
  have r7 := r7.since hg
  have r8 := r8.since hg
  have r9 := r9.since hx
  have Vx : Hid (∀ W', Since W8 W' → _) := fun W' h => Vx.out W' (hg.trans h)
  have Vy : Hid (∀ W', Since W8 W' → _) := fun W' h => Vy.out W' (hg.trans h)
  have Vs : Hid (∀ W', Since W8 W' → _) := fun W' h => Vs.out W' (hg.trans h)
  have Vp : Hid (∀ W', Since W8 W' → _) := fun W' h => Vp.out W' (hg.trans h)
  have Vn : Hid (∀ W', Since W8 W' → _) := fun W' h => Vn.out W' (hg.trans h)
  have hS := hS.trans hg
  clear hW8 hx hg hK
  generalize v8.heap.size = bkW8 at *
  have hK := Since.refl W8
  obtain ⟨vna, vnb⟩ := (Vn.out _ hK).two
  obtain ⟨vma, vmb⟩ := (Vm.out _ hK).two
  go_upto_region 12 with (first
    | (go_at_call 22; (with_reducible refine (cmp_val (ns := Sg03.small_any X4 x4 (ngB a0) (mag a0) _ (r8.since hK) (by have := L0.out; omega)) E6.out).mono ?_); rintro e v9 ⟨rfl, h⟩; have hK := hK.trans h; obtain ⟨vna, vnb⟩ := (Vn.out _ hK).two; obtain ⟨vma, vmb⟩ := (Vm.out _ hK).two)
    | (go_at_call 22; (with_reducible refine (cmp_val (ns := Sg03.small_any X5 x5 (ngB a0) (mag a0) _ (r9.since hK) (by have := L0.out; omega)) E6.out).mono ?_); rintro e v10 ⟨rfl, h⟩; have hK := hK.trans h; obtain ⟨vna, vnb⟩ := (Vn.out _ hK).two; obtain ⟨vma, vmb⟩ := (Vm.out _ hK).two))
  obtain ⟨vsa, vsb, vsc, vsd⟩ := (Vs.out _ hK).four
  obtain ⟨vpa, vpb, vpc, vpd⟩ := (Vp.out _ hK).four
  have f1 := Lib.hid HC.out
  rcases f1.out with ⟨rfl, f2, f3⟩ | ⟨rfl, f2, f3⟩ | ⟨rfl, f2, f3⟩
  · go_wp2_with (first
      | (go_at_call 14; (with_reducible refine (Law04.ours_any X2 Y2 (mag (a0 + a1)).length x2 (mag 1).length y2 (ngB (a0 + a1)) (ngB 1) _).mono ?_); rintro e vo ⟨rfl, h⟩; have hK := hK.trans h; obtain ⟨vsa, vsb, vsc, vsd⟩ := (Vs.out _ hK).four; obtain ⟨vpa, vpb, vpc, vpd⟩ := (Vp.out _ hK).four)
      | (go_at_call 14; (with_reducible refine (Law04.ours_any X3 Y3 (mag (a0 * a1)).length x3 (mag 1).length y3 (ngB (a0 * a1)) (ngB 1) _).mono ?_); rintro e vo ⟨rfl, h⟩; have hK := hK.trans h; obtain ⟨vsa, vsb, vsc, vsd⟩ := (Vs.out _ hK).four; obtain ⟨vpa, vpb, vpc, vpd⟩ := (Vp.out _ hK).four)
      | (go_at_call 16; (with_reducible refine ((Ref04.of_any (a0 + a1) _ B2.out).mono fun _ _ h => of_at h).mono ?_); rintro e vq ⟨X6, x6, Y6, y6, rfl, t0, t1, h⟩; have hK := hK.trans h; obtain ⟨vsa, vsb, vsc, vsd⟩ := (Vs.out _ hK).four; obtain ⟨vpa, vpb, vpc, vpd⟩ := (Vp.out _ hK).four)
      | (go_at_call 16; (with_reducible refine ((Ref04.of_any (a0 * a1) _ B3.out).mono fun _ _ h => of_at h).mono ?_); rintro e vr ⟨X7, x7, Y7, y7, rfl, t2, t3, h⟩; have hK := hK.trans h; obtain ⟨vsa, vsb, vsc, vsd⟩ := (Vs.out _ hK).four; obtain ⟨vpa, vpb, vpc, vpd⟩ := (Vp.out _ hK).four)
      | (go_at_call 13; (with_reducible refine (same_yes X2 Y2 X6 Y6 x2 y2 x6 y6 (ngB (a0 + a1)) (ngB 1) (mag (a0 + a1)) (mag 1) _ (r4.since hK) (r5.since hK) t0 t1 (by have := L2.out; omega) (by decide)).mono ?_); rintro e vs ⟨rfl, h⟩; have hK := hK.trans h; obtain ⟨vsa, vsb, vsc, vsd⟩ := (Vs.out _ hK).four; obtain ⟨vpa, vpb, vpc, vpd⟩ := (Vp.out _ hK).four)
      | (go_at_call 13; (with_reducible refine (same_yes X3 Y3 X7 Y7 x3 y3 x7 y7 (ngB (a0 * a1)) (ngB 1) (mag (a0 * a1)) (mag 1) _ (r6.since hK) (r7.since hK) t2 t3 (by have := L3.out; omega) (by decide)).mono ?_); rintro e vs ⟨rfl, h⟩; have hK := hK.trans h; obtain ⟨vsa, vsb, vsc, vsd⟩ := (Vs.out _ hK).four; obtain ⟨vpa, vpb, vpc, vpd⟩ := (Vp.out _ hK).four))
    go_ret
    exact ⟨rfl, hS.trans hK⟩
  · go_wp2_with (first
      | (go_at_call 14; (with_reducible refine (Law04.ours_any X2 Y2 (mag (a0 + a1)).length x2 (mag 1).length y2 (ngB (a0 + a1)) (ngB 1) _).mono ?_); rintro e vo ⟨rfl, h⟩; have hK := hK.trans h; obtain ⟨vsa, vsb, vsc, vsd⟩ := (Vs.out _ hK).four; obtain ⟨vpa, vpb, vpc, vpd⟩ := (Vp.out _ hK).four)
      | (go_at_call 14; (with_reducible refine (Law04.ours_any X3 Y3 (mag (a0 * a1)).length x3 (mag 1).length y3 (ngB (a0 * a1)) (ngB 1) _).mono ?_); rintro e vo ⟨rfl, h⟩; have hK := hK.trans h; obtain ⟨vsa, vsb, vsc, vsd⟩ := (Vs.out _ hK).four; obtain ⟨vpa, vpb, vpc, vpd⟩ := (Vp.out _ hK).four)
      | (go_at_call 16; (with_reducible refine ((Ref04.of_any (a0 + a1) _ B2.out).mono fun _ _ h => of_at h).mono ?_); rintro e vq ⟨X6, x6, Y6, y6, rfl, t0, t1, h⟩; have hK := hK.trans h; obtain ⟨vsa, vsb, vsc, vsd⟩ := (Vs.out _ hK).four; obtain ⟨vpa, vpb, vpc, vpd⟩ := (Vp.out _ hK).four)
      | (go_at_call 16; (with_reducible refine ((Ref04.of_any (a0 * a1) _ B3.out).mono fun _ _ h => of_at h).mono ?_); rintro e vr ⟨X7, x7, Y7, y7, rfl, t2, t3, h⟩; have hK := hK.trans h; obtain ⟨vsa, vsb, vsc, vsd⟩ := (Vs.out _ hK).four; obtain ⟨vpa, vpb, vpc, vpd⟩ := (Vp.out _ hK).four)
      | (go_at_call 13; (with_reducible refine (same_yes X2 Y2 X6 Y6 x2 y2 x6 y6 (ngB (a0 + a1)) (ngB 1) (mag (a0 + a1)) (mag 1) _ (r4.since hK) (r5.since hK) t0 t1 (by have := L2.out; omega) (by decide)).mono ?_); rintro e vs ⟨rfl, h⟩; have hK := hK.trans h; obtain ⟨vsa, vsb, vsc, vsd⟩ := (Vs.out _ hK).four; obtain ⟨vpa, vpb, vpc, vpd⟩ := (Vp.out _ hK).four)
      | (go_at_call 13; (with_reducible refine (same_yes X3 Y3 X7 Y7 x3 y3 x7 y7 (ngB (a0 * a1)) (ngB 1) (mag (a0 * a1)) (mag 1) _ (r6.since hK) (r7.since hK) t2 t3 (by have := L3.out; omega) (by decide)).mono ?_); rintro e vs ⟨rfl, h⟩; have hK := hK.trans h; obtain ⟨vsa, vsb, vsc, vsd⟩ := (Vs.out _ hK).four; obtain ⟨vpa, vpb, vpc, vpd⟩ := (Vp.out _ hK).four))
    go_ret
    exact ⟨rfl, hS.trans hK⟩
  · go_wp2_with (first
      | (go_at_call 14; (with_reducible refine (Law04.ours_any X2 Y2 (mag (a0 + a1)).length x2 (mag 1).length y2 (ngB (a0 + a1)) (ngB 1) _).mono ?_); rintro e vo ⟨rfl, h⟩; have hK := hK.trans h; obtain ⟨vsa, vsb, vsc, vsd⟩ := (Vs.out _ hK).four; obtain ⟨vpa, vpb, vpc, vpd⟩ := (Vp.out _ hK).four)
      | (go_at_call 14; (with_reducible refine (Law04.ours_any X3 Y3 (mag (a0 * a1)).length x3 (mag 1).length y3 (ngB (a0 * a1)) (ngB 1) _).mono ?_); rintro e vo ⟨rfl, h⟩; have hK := hK.trans h; obtain ⟨vsa, vsb, vsc, vsd⟩ := (Vs.out _ hK).four; obtain ⟨vpa, vpb, vpc, vpd⟩ := (Vp.out _ hK).four)
      | (go_at_call 16; (with_reducible refine ((Ref04.of_any (a0 + a1) _ B2.out).mono fun _ _ h => of_at h).mono ?_); rintro e vq ⟨X6, x6, Y6, y6, rfl, t0, t1, h⟩; have hK := hK.trans h; obtain ⟨vsa, vsb, vsc, vsd⟩ := (Vs.out _ hK).four; obtain ⟨vpa, vpb, vpc, vpd⟩ := (Vp.out _ hK).four)
      | (go_at_call 16; (with_reducible refine ((Ref04.of_any (a0 * a1) _ B3.out).mono fun _ _ h => of_at h).mono ?_); rintro e vr ⟨X7, x7, Y7, y7, rfl, t2, t3, h⟩; have hK := hK.trans h; obtain ⟨vsa, vsb, vsc, vsd⟩ := (Vs.out _ hK).four; obtain ⟨vpa, vpb, vpc, vpd⟩ := (Vp.out _ hK).four)
      | (go_at_call 13; (with_reducible refine (same_yes X2 Y2 X6 Y6 x2 y2 x6 y6 (ngB (a0 + a1)) (ngB 1) (mag (a0 + a1)) (mag 1) _ (r4.since hK) (r5.since hK) t0 t1 (by have := L2.out; omega) (by decide)).mono ?_); rintro e vs ⟨rfl, h⟩; have hK := hK.trans h; obtain ⟨vsa, vsb, vsc, vsd⟩ := (Vs.out _ hK).four; obtain ⟨vpa, vpb, vpc, vpd⟩ := (Vp.out _ hK).four)
      | (go_at_call 13; (with_reducible refine (same_yes X3 Y3 X7 Y7 x3 y3 x7 y7 (ngB (a0 * a1)) (ngB 1) (mag (a0 * a1)) (mag 1) _ (r6.since hK) (r7.since hK) t2 t3 (by have := L3.out; omega) (by decide)).mono ?_); rintro e vs ⟨rfl, h⟩; have hK := hK.trans h; obtain ⟨vsa, vsb, vsc, vsd⟩ := (Vs.out _ hK).four; obtain ⟨vpa, vpb, vpc, vpd⟩ := (Vp.out _ hK).four))
    go_ret
    exact ⟨rfl, hS.trans hK⟩

set_option maxRecDepth 100000 in
theorem lifted (os : Os) (started : os.Started) (H : Type) (enc : TypeId × Value → H) :
    ReturnsInHanded {} Tryd.checked os 4 .any (fun w args => (Rows.ratioWholeSpec.pre enc Tryd.prog Tryd.f4 Rows.ratioWholeRow.domain false w args ∧ laidMetH Tryd.prog Rows.ratioWholeRow.laid w) ∧ sizedMet enc Tryd.prog Tryd.f4 (OpenSpec.ofChange Rows.ratioWholeSpec) false w args) (Rows.ratioWholeSpec.post enc Tryd.prog Tryd.f4 false true false false) := by
  refine returnsInHanded_of_change_and (C := Tryd.checked) (X := fun w _ => laidMetH Tryd.prog Rows.ratioWholeRow.laid w) (fun _ _ _ hh h => h.of_heap hh) own started (by kernel_rfl) Tryd.func4
    (ChangeSpec.witness_shaped (enc := enc) (C := Tryd.checked) (os := os) (X := fun w _ => laidMetH Tryd.prog Rows.ratioWholeRow.laid w) false (World.laidAll Tryd.prog os Rows.ratioWholeRow.laid) #[.int .i32 0, .int .i32 0] 8 (World.laidAll_os _ _ _)
      (World.shaped_of_ZipB (by kernel_rfl) (by kernel_rfl)) (by kernel_rfl) (by kernel_rfl) (by kernel_rfl)
      (by rw [MakeChecks.laidMetH_plain _ _ _ (by kernel_rfl)]; exact laidMet_laidAll _ (by kernel_rfl) (by kernel_rfl))) ?_
  intro W base args ds gs before hval0 hW hcnd _ _ _
  have hval : ∀ (j : Nat) t v, Tryd.f4.params[j]? = some t → args[j]? = some v → Value.okWide Tryd.prog W .any base t v := hval0
  have hW' := hW
  obtain ⟨p, q, hA0, hV, rfl, hfz, hnd⟩ := hW
  have hA : DataW.TrodAll enc Tryd.prog W 0 (fun _ => true) true Tryd.f4.params.toList args.toList ds p := hA0
  rw [Tryd.params4] at hA hval
  obtain ⟨v0, vs0, d0, ds0, p0, q0, hargs, rfl, rfl, h0, r0⟩ := trodAll_cons hA
  obtain ⟨v1, vs1, d1, ds1, p1, q1, rfl, rfl, rfl, h1, r1⟩ := trodAll_cons r0
  obtain ⟨rfl, rfl, rfl⟩ := trodAll_nil r1
  obtain rfl : args = #[v0, v1] := by cases args; simp_all
  obtain ⟨rfl, rfl⟩ := trodVars_none hV
  obtain ⟨a0, rfl, rfl, rfl, w0⟩ := open_int Tryd.underlying21 (hval 0 21 v0 rfl rfl) h0
  obtain ⟨a1, rfl, rfl, rfl, w1⟩ := open_int Tryd.underlying21 (hval 1 21 v1 rfl rfl) h1
  clear hA0 hval0
  simp only [List.append_nil] at hW'
  refine (walk a0 a1 w0 w1 W).mono fun e W' ⟨he, bel⟩ => ?_
  subst he
  exact ⟨_, rfl, _, _, _, [], [], [], hW', (trodAll_cons_mk (shut_bool Tryd.underlying4 _) trodAll_mk0), (trodAll_cons_mk (shut_int Tryd.underlying21 w0) (trodAll_cons_mk (shut_int Tryd.underlying21 w1) trodAll_mk0)), rfl, Below.frame bel _, fun h => by cases h⟩

theorem over : Rows.ratioWholeRow.holds Tryd.pinned (OpenSpec.ofChange Rows.ratioWholeSpec) :=
  OpenClaim.holds_of_wide 4 Tryd.f4 rfl rfl rfl rfl rfl rfl rfl ⟨rfl, rfl, rfl, rfl, rfl⟩ rfl rfl rfl rfl rfl (by kernel_rfl) Tryd.func4 (by kernel_rfl)
    (of_decide_eq_true (by kernel_rfl)) (by unfold Func.isWrapper; first | (rw [if_pos (by decide +kernel)]; kernel_rfl) | (rw [if_neg (by decide +kernel)]; exact ⟨rfl, rfl⟩))
    (fun os started H enc _ => lifted os started H enc)

/-- THE STATEMENT: the tied card -/
theorem proved : Rows.RatioWholeCardSaid :=
  Claim7.holds_tied_plain_at .later [] _ _ _ _ over (fun _ h => by cases h) (by kernel_rfl) (fun _ h => by cases h) ratioWhole_row_tie rfl ⟨rfl, rfl⟩ (by kernel_rfl) rfl
    (fun f fn hf hfn => by
      obtain rfl : f = 4 := Option.some.inj ((show Tryd.prog.funcNamed "touchstone/touchstonelaw04.RatioWhole" = some 4 by kernel_rfl).symm.trans hf) |>.symm
      obtain rfl : fn = Tryd.f4 := (Option.some.inj (Tryd.func4.symm.trans hfn)).symm
      exact ⟨by kernel_rfl, fun j t ht => by
        rw [Tryd.params4] at ht
        have hm : t ∈ [21, 21] := by simpa using Array.mem_of_getElem? ht
        have hall : ([21, 21].all fun u => !Tryd.prog.wantsStandIn u) = true := by kernel_rfl
        exact (show Tryd.prog.wantsStandIn t = false by simpa using List.all_eq_true.1 hall t hm)⟩)
    (by kernel_rfl)
#print axioms proved
end Go.Proofs.YtbbemgeinlehmaaDoor.ratioWhole
