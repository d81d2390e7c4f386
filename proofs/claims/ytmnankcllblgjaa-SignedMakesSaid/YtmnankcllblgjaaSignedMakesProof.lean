/-
  For all numbers a and b of layer 3 and each number n of 64 bits: the law SignedMakes returns true (which numbers may be, what n is, what a is as a number of 64 bits, and how a and b follow each other, is told as the document says, where neither has more than 30 digits) and leaves both as they were. No condition.
-/
import Derived.Test.YtmnankcllblgjaaRows
import Derived.WalkKit
import Derived.ProofKit
import Derived.OpenShut
import Derived.ShutString
import Derived.ChangeOld
import Derived.Below
import Derived.Lib.SmallJoins
import Derived.Test.YtmnankcllblgjaaLw
import Derived.Test.YtmnankcllblgjaaWd
import Derived.Test.YtmnankcllblgjaaSb
import Derived.Test.YtmnankcllblgjaaRb
import Derived.Test.YtmnankcllblgjaaRd
import Derived.Deep.RegionHeld3
import Derived.Deep.DeepCutAuto
namespace Go.Proofs.Ytmnankcllblgjaa.signedMakes
open Go.Joins
open Go.ChangeShapes Go.WideShapes Go.ChangeAt Go.RowKit
open Go.ChangeMaps (open_string shut_string)
open Go.Proofs.Ytmnankcllblgjaa.Dig
open Go.Proofs.Ytmnankcllblgjaa.Ref03 (sv RetS smallZ cmpZ srightB ngB mag)
set_option linter.unusedVariables false
set_option linter.unusedSimpArgs false

theorem cells24 : Try.prog.cellsOf 24 = 2 := by kernel_rfl
theorem own : ownKnob Try.prog.godebug = none := by kernel_rfl
theorem laidOut : laidOutB Try.prog = true := by kernel_rfl

/-- WHAT THE WALK IS TOLD OF A SLICE OF INTEGERS THAT CAME IN: it is nil; or it leads to a row of 'cap' cells, the numbers 'zs' (the first 'len' are its elements, the rest its spare room), each fitting its kind. -/
def IsRow (k : IntKind) (w : World) (a : Option Addr) (len cap : Nat) (zs : List Int) : Prop :=
  (a = none ∧ len = 0 ∧ cap = 0 ∧ zs = []) ∨
  ∃ x, a = some x ∧ len ≤ cap ∧ cap ≤ maxLen ∧ zs.length = cap ∧ (∀ i, i < zs.length → w.cell? (x.add i) = some (.int k (zs.getD i 0))) ∧ ∀ n ∈ zs, (Lit.int k n).wf = true

theorem small_at (A0 : Option Addr) (c0 : Nat) (na : Bool) (xs : List Nat) (w : World) (hx : Row w (.slice A0 xs.length c0) xs) (lx : xs.length ≤ 1000) {n e : Int} (h : smallZ na xs = (n, e)) :
    Calls Try.prog 11 #[sv na (.slice A0 xs.length c0)] w fun e' w' => e' = .returned (.tuple #[.int .i64 n, .int .i64 e]) ∧ Since w w' := by
  have k := Sg03.small_any A0 c0 na xs w hx lx
  rwa [h] at k
theorem rsmall_at (A0 : Option Addr) (c0 : Nat) (na : Bool) (xs : List Nat) (w : World) (hx : Row w (.slice A0 xs.length c0) xs) (lx : xs.length ≤ 1000) {n e : Int} (h : smallZ na xs = (n, e)) :
    Calls Try.prog 13 #[sv na (.slice A0 xs.length c0)] w fun e' w' => e' = .returned (.tuple #[.int .i64 n, .int .i64 e]) ∧ Since w w' := by
  have k := Ref03.small_any A0 c0 na xs w hx lx
  rwa [h] at k
theorem cmp_at (A0 A1 : Option Addr) (c0 c1 : Nat) (na nb : Bool) (xs ys : List Nat) (w : World) (hx : Row w (.slice A0 xs.length c0) xs) (hy : Row w (.slice A1 ys.length c1) ys) (lx : xs.length ≤ 1000) (ly : ys.length ≤ 1000) {n e : Int} (h : cmpZ na xs nb ys = (n, e)) :
    Calls Try.prog 14 #[sv na (.slice A0 xs.length c0), sv nb (.slice A1 ys.length c1)] w fun e' w' => e' = .returned (.tuple #[.int .i64 n, .int .i64 e]) ∧ Since w w' := by
  have k := Sg03.cmp_any A0 A1 c0 c1 na nb xs ys w hx hy lx ly
  rwa [h] at k
theorem rcmp_at (A0 A1 : Option Addr) (c0 c1 : Nat) (na nb : Bool) (xs ys : List Nat) (w : World) (hx : Row w (.slice A0 xs.length c0) xs) (hy : Row w (.slice A1 ys.length c1) ys) (lx : xs.length ≤ 1000) (ly : ys.length ≤ 1000) {n e : Int} (h : cmpZ na xs nb ys = (n, e)) :
    Calls Try.prog 15 #[sv na (.slice A0 xs.length c0), sv nb (.slice A1 ys.length c1)] w fun e' w' => e' = .returned (.tuple #[.int .i64 n, .int .i64 e]) ∧ Since w w' := by
  have k := Ref03.cmp_any A0 A1 c0 c1 na nb xs ys w hx hy lx ly
  rwa [h] at k

set_option maxRecDepth 100000 in
set_option maxHeartbeats 4000000 in
theorem walk (b0 : Bool) (a0 : Option Addr) (len0 cap0 : Nat) (z0 : List Int) (b1 : Bool) (a1 : Option Addr) (len1 cap1 : Nat) (z1 : List Int) (a2 : Int) (w : World) (w0 : IsRow .u32 w a0 len0 cap0 z0) (w1 : IsRow .u32 w a1 len1 cap1 z1) (w2 : (Lit.int .i64 a2).wf = true) :
    Calls Try.prog 3 #[.agg #[.bool b0, .slice a0 len0 cap0], .agg #[.bool b1, .slice a1 len1 cap1], .int .i64 a2] w fun e w' => e = .returned (.bool true) ∧ Since w w' := by
  have B2 := Lib.hid (show -9223372036854775808 ≤ a2 ∧ a2 ≤ 9223372036854775807 by simpa [Lit.wf, IntKind.min, IntKind.max, IntKind.signed, IntKind.bits] using w2)
  clear w2
  obtain ⟨d0, hl0, hr0⟩ := row_in w0
  have R0 := Lib.hid hr0
  obtain ⟨d1, hl1, hr1⟩ := row_in w1
  have R1 := Lib.hid hr1
  clear w0 hr0 w1 hr1
  subst hl0 hl1
  obtain ⟨W0, hW0⟩ : ∃ W0, W0 = (w.alloc (.cells #[.bool b0, .slice a0 d0.length cap0] 24)).alloc (.cells #[.bool b1, .slice a1 d1.length cap1] 24) := ⟨_, rfl⟩
  have HW := Lib.hid hW0
  have hS0 : Since w W0 := by rw [hW0]; exact ((Since.refl w).alloc _).alloc _
  have hold : Hid (∀ W : World, Since W0 W → (W.cell? ⟨w.heap.size, 0, none⟩ = some (.bool b0) ∧ W.cell? ⟨w.heap.size, 1, none⟩ = some (.slice a0 d0.length cap0) ∧ W.cell? ⟨w.heap.size + 1, 0, none⟩ = some (.bool b1) ∧ W.cell? ⟨w.heap.size + 1, 1, none⟩ = some (.slice a1 d1.length cap1)) ∧ Since w W) := fun W h => ⟨Ref03.hold2of (hW0 ▸ h), hS0.trans h⟩
  clear hW0
  have hK := Since.refl W0
  by_cases g : (decide (d0.length ≤ 30) && decide (d1.length ≤ 30)) = true
  rotate_left
  · have HF := Lib.hid (show (decide (d0.length ≤ 30) && decide (d1.length ≤ 30)) = false by simpa using g)
    clear g
    go_enter Try.func3, Try.ntmps3
    go_wp2_with fail
    rw [← HW.out]
    go_wp2_with (first
      | (go_at_call 9; (with_reducible refine (Alive03.alive _).mono ?_); rintro e v0 ⟨rfl, h⟩; have hK := hK.trans h; obtain ⟨⟨k0, k1, k2, k3⟩, _⟩ := hold.out _ hK)
      | (go_at_call 10; (with_reducible refine (Law03.few_two _ _ ⟨b0, a0, cap0, d0⟩ ⟨b1, a1, cap1, d1⟩).mono ?_); rw [HF.out]; rintro e vf ⟨rfl, h⟩; have hK := hK.trans h; obtain ⟨⟨k0, k1, k2, k3⟩, _⟩ := hold.out _ hK))
    go_ret
    exact ⟨rfl, hS0.trans hK⟩
  have HF := Lib.hid g
  have L0 : d0.length ≤ 30 := by simp at g; omega
  have L1 : d1.length ≤ 30 := by simp at g; omega
  have M0 := Lib.hid (show d0.length ≤ 1000 by omega)
  have M1 := Lib.hid (show d1.length ≤ 1000 by omega)
  clear g L0 L1
  obtain ⟨⟨n0, e0⟩, E0⟩ : ∃ r, smallZ b0 d0 = r := ⟨_, rfl⟩
  have E0 := Lib.hid E0
  obtain ⟨⟨n1, e1⟩, E1⟩ : ∃ r, cmpZ b0 d0 b1 d1 = r := ⟨_, rfl⟩
  have E1 := Lib.hid E1
  obtain ⟨rb, hrb⟩ : ∃ r, r = srightB b0 d0 := ⟨_, rfl⟩
  have RB := Lib.hid hrb.symm
  clear hrb
  obtain ⟨no, hno⟩ : ∃ n, n = ngB a2 := ⟨_, rfl⟩
  obtain ⟨so, hso⟩ : ∃ s, s = mag a2 := ⟨_, rfl⟩
  have OF0 : Hid (∀ W, Calls Try.prog 20 #[.int .i64 a2] W (RetS no so W)) := fun W => by rw [hno, hso]; exact Sg03.of_any a2 W B2.out
  have OF1 : Hid (∀ W, Calls Try.prog 21 #[.int .i64 a2] W (RetS no so W)) := fun W => by rw [hno, hso]; exact Ref03.of_any a2 W B2.out
  have LS := Lib.hid (show so.length ≤ 10000 by rw [hso]; exact Nat.le_trans (digs_len_le (k := 2) (by have := B2.out; omega)) (by omega))
  clear hno hso
  go_enter Try.func3, Try.ntmps3
  go_wp2_with fail
  rw [← HW.out]
  go_upto_region 7 with (first
      | (go_at_call 9; (with_reducible refine (Alive03.alive _).mono ?_); rintro e v0 ⟨rfl, h⟩; have hK := hK.trans h; obtain ⟨⟨k0, k1, k2, k3⟩, _⟩ := hold.out _ hK)
      | (go_at_call 10; (with_reducible refine (Law03.few_two _ _ ⟨b0, a0, cap0, d0⟩ ⟨b1, a1, cap1, d1⟩).mono ?_); rw [HF.out]; rintro e vf ⟨rfl, h⟩; have hK := hK.trans h; obtain ⟨⟨k0, k1, k2, k3⟩, _⟩ := hold.out _ hK)
      | (go_at_call 12; (with_reducible refine (Law03.theirs_any a0 d0.length cap0 b0 _).mono ?_); rintro e v1 ⟨rfl, h⟩; have hK := hK.trans h; obtain ⟨⟨k0, k1, k2, k3⟩, _⟩ := hold.out _ hK)
      | (go_at_call 11; (with_reducible refine (small_at a0 cap0 b0 d0 _ (R0.out.since (hS0.trans hK)) M0.out E0.out).mono ?_); rintro e v2 ⟨rfl, h⟩; have hK := hK.trans h; obtain ⟨⟨k0, k1, k2, k3⟩, _⟩ := hold.out _ hK)
      | (go_at_call 13; (with_reducible refine (rsmall_at a0 cap0 b0 d0 _ (R0.out.since (hS0.trans hK)) M0.out E0.out).mono ?_); rintro e v3 ⟨rfl, h⟩; have hK := hK.trans h; have hL := hK; obtain ⟨⟨k0, k1, k2, k3⟩, _⟩ := hold.out _ hK))
  have hh := True.intro
  go_region_held3 (fun W => (W.cell? ⟨w.heap.size, 0, none⟩ = some (.bool b0) ∧ W.cell? ⟨w.heap.size, 1, none⟩ = some (.slice a0 d0.length cap0) ∧ W.cell? ⟨w.heap.size + 1, 0, none⟩ = some (.bool b1) ∧ W.cell? ⟨w.heap.size + 1, 1, none⟩ = some (.slice a1 d1.length cap1)) ∧ Since w W)
    (first | exact hold.out _ hR | exact hold.out _ (Since.drew hK) | exact hold.out _ hK)
    (first
      | (go_at_call 12; (with_reducible refine (Law03.theirs_any a0 d0.length cap0 b0 (World.drew _)).mono ?_); rintro e x1 ⟨rfl, h⟩; have hR := (Since.drew hK).trans h)
      | (go_at_call 12; (with_reducible refine (Law03.theirs_any a1 d1.length cap1 b1 _).mono ?_); rintro e x2 ⟨rfl, h⟩; have hR := hR.trans h)
      | (go_at_call 14; (with_reducible refine (cmp_at a0 a1 cap0 cap1 b0 b1 d0 d1 _ (R0.out.since (hS0.trans hR)) (R1.out.since (hS0.trans hR)) M0.out M1.out E1.out).mono ?_); rintro e x3 ⟨rfl, h⟩; have hR := hR.trans h))
  clear hK
  have hK := hR
  clear hR
  obtain ⟨⟨k0, k1, k2, k3⟩, _⟩ := hold.out _ hK
  go_upto_region 9 with (first
      | (go_at_call 15; (with_reducible refine (rcmp_at a0 a1 cap0 cap1 b0 b1 d0 d1 _ (R0.out.since (hS0.trans hK)) (R1.out.since (hS0.trans hK)) M0.out M1.out E1.out).mono ?_); rintro e v4 ⟨rfl, h⟩; have hK := hK.trans h; obtain ⟨⟨k0, k1, k2, k3⟩, _⟩ := hold.out _ hK))
  go_region_held3 (fun W => (W.cell? ⟨w.heap.size, 0, none⟩ = some (.bool b0) ∧ W.cell? ⟨w.heap.size, 1, none⟩ = some (.slice a0 d0.length cap0) ∧ W.cell? ⟨w.heap.size + 1, 0, none⟩ = some (.bool b1) ∧ W.cell? ⟨w.heap.size + 1, 1, none⟩ = some (.slice a1 d1.length cap1)) ∧ Since w W)
    (first | exact hold.out _ hR | exact hold.out _ (Since.drew hK) | exact hold.out _ hK)
    (first
      | (go_at_call 12; (with_reducible refine (Law03.theirs_any a0 d0.length cap0 b0 (World.drew _)).mono ?_); rintro e y1 ⟨rfl, h⟩; have hR := (Since.drew hK).trans h)
      | (go_at_call 16; (with_reducible refine (Sg03.right_any (.slice a0 d0.length cap0) b0 d0 _ (R0.out.since (hS0.trans hR)) (by have := M0.out; omega)).mono ?_); rw [RB.out]; rintro e y2 ⟨rfl, h⟩; have hR := hR.trans h)
      | (go_at_call 17; (with_reducible refine (Ref03.right_any (.slice a0 d0.length cap0) b0 d0 _ (R0.out.since (hS0.trans hR)) (by have := M0.out; omega)).mono ?_); rw [RB.out]; rintro e y3 ⟨rfl, h⟩; have hR := hR.trans h)
      | (go_at_call 20; (with_reducible refine (OF0.out _).mono ?_); rintro e y4 ⟨A4, q4, rfl, r4, h⟩; have hR := hR.trans h)
      | (go_at_call 19; (with_reducible refine (Law03.ours_any A4 so.length q4 no _).mono ?_); rintro e y5 ⟨rfl, h⟩; have r4 := r4.since h; have hR := hR.trans h)
      | (go_at_call 21; (with_reducible refine (OF1.out _).mono ?_); rintro e y6 ⟨A5, q5, rfl, r5, h⟩; have r4 := r4.since h; have hR := hR.trans h)
      | (go_at_call 18; (with_reducible refine (Law03.same_self A4 A5 q4 q5 no so _ r4 r5 LS.out).mono ?_); rintro e y7 ⟨rfl, h⟩; have hR := hR.trans h))
  go_wp2_with fail
  go_ret
  exact ⟨rfl, hS0.trans hR⟩

set_option maxRecDepth 100000 in
theorem lifted (os : Os) (started : os.Started) (H : Type) (enc : TypeId × Value → H) :
    ReturnsInHanded {} Try.checked os 3 .any (Rows.signedMakesSpec.pre6 enc Try.prog Try.f3 Rows.signedMakesRow.domain false) (Rows.signedMakesSpec.post enc Try.prog Try.f3 false true false false) := by
  refine returnsInHanded_of_change (C := Try.checked) own started (by kernel_rfl) Try.func3
    (ChangeSpec.witness6 (enc := enc) (C := Try.checked) false ⟨#[], #[.agg #[.bool false, .slice none 0 0], .agg #[.bool false, .slice none 0 0], .int .i64 0], []⟩ 8 (by kernel_rfl) (by kernel_rfl) (by kernel_rfl) (by kernel_rfl)) ?_
  intro W base args ds gs before hval0 hW hcnd _
  have hval : ∀ (j : Nat) t v, Try.f3.params[j]? = some t → args[j]? = some v → Value.okWide Try.prog W .any base t v := hval0
  have hW' := hW
  obtain ⟨p, q, hA0, hV, rfl, hfz, hnd⟩ := hW
  have hA : DataW.TrodAll enc Try.prog W 0 (fun _ => true) true Try.f3.params.toList args.toList ds p := hA0
  rw [Try.params3] at hA hval
  obtain ⟨v0, vs0, d0, ds0, p0, q0, hargs, rfl, rfl, h0, r0⟩ := trodAll_cons hA
  obtain ⟨v1, vs1, d1, ds1, p1, q1, rfl, rfl, rfl, h1, r1⟩ := trodAll_cons r0
  obtain ⟨v2, vs2, d2, ds2, p2, q2, rfl, rfl, rfl, h2, r2⟩ := trodAll_cons r1
  obtain ⟨rfl, rfl, rfl⟩ := trodAll_nil r2
  obtain rfl : args = #[v0, v1, v2] := by cases args; simp_all
  obtain ⟨rfl, rfl⟩ := trodVars_none hV
  have k0 := h0
  have lt0 : ∀ x ∈ p0, x.block < W.heap.size := by obtain ⟨m, hm⟩ := k0; exact DataW.trod_lt m _ _ _ hm
  obtain ⟨cb0, cm0, yb0, ym0, mm0, rfl, rfl, rfl, hb0, hm0⟩ := open_agg2 Try.underlying24 (by kernel_rfl) cells24 (hval 0 24 v0 rfl rfl) h0
  obtain ⟨b0, eb0, xb0⟩ := DataW.trod_bool Try.underlying4 hb0
  simp at eb0
  subst eb0
  obtain ⟨a0, len0, cap0, em0⟩ := slice_form Try.underlying22 hm0
  simp at em0
  subst em0
  obtain ⟨z0, w0⟩ : ∃ zs, IsRow .u32 W a0 len0 cap0 zs := by
    have hf := hm0
    rcases open_ints Try.underlying22 Try.underlying59 (by kernel_rfl) hf with ⟨hcs, _⟩ | ⟨x, l, c, zs, hcs, _, hl, hm, hz, _, hcell, hwz⟩
    · simp [Value.cells] at hcs
      obtain ⟨rfl, rfl, rfl⟩ := hcs
      exact ⟨[], .inl ⟨rfl, rfl, rfl, rfl⟩⟩
    · simp [Value.cells] at hcs
      obtain ⟨rfl, rfl, rfl⟩ := hcs
      exact ⟨zs, .inr ⟨_, rfl, hl, hm, by simpa using hz, hcell, hwz⟩⟩
  have k1 := h1
  have lt1 : ∀ x ∈ p1, x.block < W.heap.size := by obtain ⟨m, hm⟩ := k1; exact DataW.trod_lt m _ _ _ hm
  obtain ⟨cb1, cm1, yb1, ym1, mm1, rfl, rfl, rfl, hb1, hm1⟩ := open_agg2 Try.underlying24 (by kernel_rfl) cells24 (hval 1 24 v1 rfl rfl) h1
  obtain ⟨b1, eb1, xb1⟩ := DataW.trod_bool Try.underlying4 hb1
  simp at eb1
  subst eb1
  obtain ⟨a1, len1, cap1, em1⟩ := slice_form Try.underlying22 hm1
  simp at em1
  subst em1
  obtain ⟨z1, w1⟩ : ∃ zs, IsRow .u32 W a1 len1 cap1 zs := by
    have hf := hm1
    rcases open_ints Try.underlying22 Try.underlying59 (by kernel_rfl) hf with ⟨hcs, _⟩ | ⟨x, l, c, zs, hcs, _, hl, hm, hz, _, hcell, hwz⟩
    · simp [Value.cells] at hcs
      obtain ⟨rfl, rfl, rfl⟩ := hcs
      exact ⟨[], .inl ⟨rfl, rfl, rfl, rfl⟩⟩
    · simp [Value.cells] at hcs
      obtain ⟨rfl, rfl, rfl⟩ := hcs
      exact ⟨zs, .inr ⟨_, rfl, hl, hm, by simpa using hz, hcell, hwz⟩⟩
  obtain ⟨a2, rfl, rfl, rfl, w2⟩ := open_int Try.underlying2 (hval 2 2 v2 rfl rfl) h2
  clear hA0 hval0
  refine (walk b0 a0 len0 cap0 z0 b1 a1 len1 cap1 z1 a2 W w0 w1 w2).mono fun e W' ⟨he, bel⟩ => ?_
  subst he
  exact ⟨_, rfl, _, _, _, [], _, [], hW', trodAll_mk1 (shut_bool Try.underlying4 _), (trodAll_cons_mk (Below.trod laidOut (by kernel_rfl) (of_decide_eq_true (by kernel_rfl)) k0 bel lt0) (trodAll_cons_mk (Below.trod laidOut (by kernel_rfl) (of_decide_eq_true (by kernel_rfl)) k1 bel lt1) (trodAll_cons_mk (shut_int Try.underlying2 w2) trodAll_mk0))), rfl, bel.frame _, fun h => by cases h⟩

theorem over : Rows.signedMakesRow.holds Try.pinned (OpenSpec.ofChange Rows.signedMakesSpec) :=
  OpenClaim.holds_of_wide 3 Try.f3 rfl rfl rfl rfl rfl rfl rfl ⟨rfl, rfl, rfl, rfl, rfl⟩ rfl rfl rfl rfl rfl (by kernel_rfl) Try.func3 (by kernel_rfl)
    (of_decide_eq_true (by kernel_rfl)) (by unfold Func.isWrapper; first | (rw [if_pos (by decide +kernel)]; kernel_rfl) | (rw [if_neg (by decide +kernel)]; exact ⟨rfl, rfl⟩))
    (fun os started H enc _ => lifted os started H enc)

/-- THE STATEMENT -/
theorem proved : Rows.SignedMakesSaid := over
#print axioms proved
end Go.Proofs.Ytmnankcllblgjaa.signedMakes
