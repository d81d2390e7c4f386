/-
  For every fraction a of layer 4: the law RatioRounds returns true (Floor, Ceil and Text answer as the document does, where both numbers have at most 8 digits) and leaves it as it was. No condition.
-/
import Derived.Test.YtbbemgeinlehmaaGreatDoorRows
import Derived.Test.YtbbemgeinlehmaaGreatDoorCards
import Derived.Test.YtbbemgeinlehmaaGreatDoorTie
import Derived.LaidMore
import Derived.Lay
import Derived.SevenTiedAt
import Derived.WalkKit
import Derived.ProofKit
import Derived.OpenShut
import Derived.ShutString
import Derived.ChangeOld
import Derived.Below
import Derived.Lib.SmallJoins
import Derived.Test.YtbbemgeinlehmaaGreatDoorOpn
import Derived.Test.YtbbemgeinlehmaaGreatDoorL4a
import Derived.Test.YtbbemgeinlehmaaGreatDoorAl4
import Derived.Test.YtbbemgeinlehmaaGreatDoorTa
import Derived.Test.YtbbemgeinlehmaaGreatDoorSr4ce
import Derived.Test.YtbbemgeinlehmaaGreatDoorSr4te
import Derived.Test.YtbbemgeinlehmaaGreatDoorQc
import Derived.Test.YtbbemgeinlehmaaGreatDoorR4g
import Derived.Test.YtbbemgeinlehmaaGreatDoorR4h
import Derived.Test.YtbbemgeinlehmaaGreatDoorFw
import Derived.Deep.RegionHeld3
import Derived.Deep.DeepCutAuto
namespace Go.Proofs.YtbbemgeinlehmaaGreatDoor.ratioRounds
open Go.Joins Go.Proofs.YtbbemgeinlehmaaGreatDoor
open Go.ChangeShapes Go.WideShapes Go.ChangeAt Go.RowKit
open Go.ChangeMaps (open_string shut_string)
open Go.Proofs.YtbbemgeinlehmaaGreatDoor.Dig Go.Proofs.YtbbemgeinlehmaaGreatDoor.R4 Go.Proofs.YtbbemgeinlehmaaGreatDoor.Fr Go.Proofs.YtbbemgeinlehmaaGreatDoor.Ref04
open Go.Proofs.YtbbemgeinlehmaaGreatDoor.Ref03 (sv)
set_option linter.unusedVariables false
set_option linter.unusedSimpArgs false

theorem cells26 : Tryz.prog.cellsOf 26 = 4 := by kernel_rfl
theorem cells24 : Tryz.prog.cellsOf 24 = 2 := by kernel_rfl
theorem own : ownKnob Tryz.prog.godebug = none := by kernel_rfl
theorem laidOut : laidOutB Tryz.prog = true := by kernel_rfl

/-- WHAT THE WALK IS TOLD OF A SLICE OF INTEGERS THAT CAME IN: it is nil; or it leads to a row of 'cap' cells, the numbers 'zs' (the first 'len' are its elements, the rest its spare room), each fitting its kind. -/
def IsRow (k : IntKind) (w : World) (a : Option Addr) (len cap : Nat) (zs : List Int) : Prop :=
  (a = none ∧ len = 0 ∧ cap = 0 ∧ zs = []) ∨
  ∃ x, a = some x ∧ len ≤ cap ∧ cap ≤ maxLen ∧ zs.length = cap ∧ (∀ i, i < zs.length → w.cell? (x.add i) = some (.int k (zs.getD i 0))) ∧ ∀ n ∈ zs, (Lit.int k n).wf = true

theorem text_val {P : Program} {f : FuncId} {args : Array Value} {w : World} {r : List UInt8 × Int} {c : List UInt8} {e : Int} (ns : Calls P f args w fun x w' => x = .returned (.tuple #[.string ⟨r.1.toArray⟩, .int .i64 r.2]) ∧ Since w w') (h : r = (c, e)) :
    Calls P f args w fun x w' => x = .returned (.tuple #[.string ⟨c.toArray⟩, .int .i64 e]) ∧ Since w w' := by
  subst h; exact ns
theorem same_int (A0 A1 : Option Addr) (c0 c1 : Nat) (n : Bool) (xs : List Nat) (w : World) (hx : Row w (.slice A0 xs.length c0) xs) (hy : Row w (.slice A1 xs.length c1) xs) (lx : xs.length ≤ 10000) :
    Calls Tryz.prog 30 #[sv n (.slice A0 xs.length c0), sv n (.slice A1 xs.length c1)] w fun e w' => e = .returned (.bool true) ∧ Since w w' := by
  have k := Ref03.same_any (.slice A0 xs.length c0) (.slice A1 xs.length c1) n n xs xs w hx hy lx lx
  rwa [show (n == n && sameB xs xs) = true by simp [sameB]] at k

set_option maxRecDepth 100000 in
set_option maxHeartbeats 4000000 in
theorem walk (b0 : Bool) (a0 : Option Addr) (len0 cap0 : Nat) (sg0 : Bool) (ad0 : Option Addr) (ln0 cp0 : Nat) (z0 y0 : List Int) (w : World) (w0 : IsRow .u32 w a0 len0 cap0 z0) (u0 : IsRow .u32 w ad0 ln0 cp0 y0) :
    Calls Tryz.prog 5 #[.agg #[.bool b0, .slice a0 len0 cap0, .bool sg0, .slice ad0 ln0 cp0]] w fun e w' => e = .returned (.bool true) ∧ Since w w' := by
  obtain ⟨p0, hl0, hr0⟩ := row_in w0
  have P0 := Lib.hid hr0
  obtain ⟨q0, hm0, hs0⟩ := row_in u0
  have Q0 := Lib.hid hs0
  clear w0 u0 hr0 hs0
  subst hl0 hm0
  obtain ⟨W0, hW0⟩ : ∃ W0, W0 = w.alloc (.cells #[.bool b0, .slice a0 p0.length cap0, .bool sg0, .slice ad0 q0.length cp0] 26) := ⟨_, rfl⟩
  have HW := Lib.hid hW0
  have hS0 : Since w W0 := by rw [hW0]; exact (Since.refl w).alloc _
  have hbx : Hid (∀ W : World, Since W0 W → Bx W (w.heap.size) #[.bool b0, .slice a0 p0.length cap0, .bool sg0, .slice ad0 q0.length cp0] 26) := fun W h => Bx.new (hW0 ▸ h) (by simp)
  clear hW0
  have hK := Since.refl W0
  by_cases g : (Law04.few1 ⟨b0, a0, cap0, p0, sg0, ad0, cp0, q0⟩) = true
  rotate_left
  · have HF := Lib.hid (show (Law04.few1 ⟨b0, a0, cap0, p0, sg0, ad0, cp0, q0⟩) = false by simpa using g)
    clear g
    go_enter Tryz.func5, Tryz.ntmps5
    go_wp2_with fail
    rw [← HW.out]
    obtain B0 := hbx.out _ hK; obtain ⟨k0a, k0b, k0c, k0d⟩ := B0.four
    go_wp2_with (first
      | (go_at_call 9; (with_reducible refine (Alive04.alive _).mono ?_); rintro e v0 ⟨rfl, h⟩; have hK := hK.trans h; obtain B0 := hbx.out _ hK; obtain ⟨k0a, k0b, k0c, k0d⟩ := B0.four)
      | (go_at_call 10; (with_reducible refine (Law04.few_one _ _ ⟨b0, a0, cap0, p0, sg0, ad0, cp0, q0⟩).mono ?_); rw [HF.out]; rintro e vf ⟨rfl, h⟩; have hK := hK.trans h; obtain B0 := hbx.out _ hK; obtain ⟨k0a, k0b, k0c, k0d⟩ := B0.four))
    go_ret
    exact ⟨rfl, hS0.trans hK⟩
  have HF := Lib.hid g
  have FW := Lib.hid (show p0.length ≤ 8 ∧ q0.length ≤ 8 by simpa [Law04.few1, and_assoc] using g)
  clear g
  obtain ⟨n1, s1, e1, E1⟩ := parts3 (floorR ((b0, p0), (sg0, q0)))
  have E1 := Lib.hid E1
  obtain ⟨n2, s2, e2, E2⟩ := parts3 (ceilR ((b0, p0), (sg0, q0)))
  have E2 := Lib.hid E2
  obtain ⟨⟨t0, e3⟩, E3⟩ : ∃ r, textR ((b0, p0), (sg0, q0)) = r := ⟨_, rfl⟩
  have E3 := Lib.hid E3
  have LA := Lib.hid (show s1.length ≤ 65 from nm_len (floorR_len P0.out.dig Q0.out.dig) E1.out)
  have LB := Lib.hid (show s2.length ≤ 65 from nm_len (ceilR_len P0.out.dig Q0.out.dig) E2.out)
  go_enter Tryz.func5, Tryz.ntmps5
  go_wp2_with fail
  rw [← HW.out]
  obtain B0 := hbx.out _ hK; obtain ⟨k0a, k0b, k0c, k0d⟩ := B0.four
  have hS := Since.refl W0
  go_upto_region 6 with (first
    | (go_at_call 9; (with_reducible refine (Alive04.alive _).mono ?_); rintro e v0 ⟨rfl, h⟩; have hK := hK.trans h; obtain B0 := hbx.out _ hK; obtain ⟨k0a, k0b, k0c, k0d⟩ := B0.four)
    | (go_at_call 10; (with_reducible refine (Law04.few_one _ _ ⟨b0, a0, cap0, p0, sg0, ad0, cp0, q0⟩).mono ?_); rw [HF.out]; rintro e vf ⟨rfl, h⟩; have hK := hK.trans h; obtain B0 := hbx.out _ hK; obtain ⟨k0a, k0b, k0c, k0d⟩ := B0.four)
    | (go_at_call 12; (with_reducible refine (Law04.theirs_any a0 ad0 p0.length cap0 q0.length cp0 b0 sg0 _).mono ?_); rintro e t6 ⟨rfl, h⟩; have hK := hK.trans h)
    | (go_at_call 24; (with_reducible refine ((Sr04.floor_any a0 ad0 cap0 cp0 b0 sg0 p0 q0 _ (P0.out.since (hS0.trans (hS.trans hK))) (Q0.out.since (hS0.trans (hS.trans hK))) (by have := FW.out; omega) (by have := FW.out; omega)).mono fun _ _ h => RetN.at E1.out h).mono ?_); rintro e v5 ⟨X1, x1, rfl, r1, h⟩; have hK := hK.trans h))
  obtain ⟨W5, hW5⟩ : ∃ W5, W5 = v5.alloc (.cells #[.bool n1, .slice X1 s1.length x1] 29) := ⟨_, rfl⟩
  rw [← hW5]
  have hx : Since v5 W5 := by rw [hW5]; exact since_alloc _ _
  have hg := hK.trans hx
  have qbW5 : w.heap.size < v5.heap.size := (hbx.out _ (hS.trans hK)).lt
  have Va : Hid (∀ W', Since W5 W' → Bx W' (v5.heap.size) #[.bool n1, .slice X1 s1.length x1] 29) := fun W' h => Bx.new (hW5 ▸ h) (by simp)
  have r1 := r1.since hx
  have hS := hS.trans hg
  clear hW5 hx hg hK
  generalize v5.heap.size = bkW5 at *
  have hK := Since.refl W5
  have B0 := hbx.out _ (hS.trans hK)
  obtain ⟨k0a, k0b, k0c, k0d⟩ := B0.four
  go_upto_region 7 with (first
    | (go_at_call 25; (with_reducible refine ((Ref04.floor_any a0 ad0 cap0 cp0 b0 sg0 p0 q0 _ (P0.out.since (hS0.trans (hS.trans hK))) (Q0.out.since (hS0.trans (hS.trans hK))) (by have := FW.out; omega) (by have := FW.out; omega)).mono fun _ _ h => RetN.at E1.out h).mono ?_); rintro e v6 ⟨X2, x2, rfl, r2, h⟩; have hK := hK.trans h))
  obtain ⟨W6, hW6⟩ : ∃ W6, W6 = v6.alloc (.cells #[.bool n1, .slice X2 s1.length x2] 24) := ⟨_, rfl⟩
  rw [← hW6]
  have hx : Since v6 W6 := by rw [hW6]; exact since_alloc _ _
  have hg := hK.trans hx
  have qbW6 : w.heap.size < v6.heap.size := (hbx.out _ (hS.trans hK)).lt
  have qaW6 : bkW5 < v6.heap.size := (Va.out _ hK).lt
  have Vb : Hid (∀ W', Since W6 W' → Bx W' (v6.heap.size) #[.bool n1, .slice X2 s1.length x2] 24) := fun W' h => Bx.new (hW6 ▸ h) (by simp)
  have r1 := r1.since hg
  have r2 := r2.since hx
  have Va : Hid (∀ W', Since W6 W' → _) := fun W' h => Va.out W' (hg.trans h)
  have hS := hS.trans hg
  clear hW6 hx hg hK
  generalize v6.heap.size = bkW6 at *
  have hK := Since.refl W6
  have B0 := hbx.out _ (hS.trans hK)
  obtain ⟨k0a, k0b, k0c, k0d⟩ := B0.four
  go_upto_region 8 with (first
    | (go_at_call 12; (with_reducible refine (Law04.theirs_any a0 ad0 p0.length cap0 q0.length cp0 b0 sg0 _).mono ?_); rintro e t6 ⟨rfl, h⟩; have hK := hK.trans h)
    | (go_at_call 26; (with_reducible refine ((Sr04.ceil_any a0 ad0 cap0 cp0 b0 sg0 p0 q0 _ (P0.out.since (hS0.trans (hS.trans hK))) (Q0.out.since (hS0.trans (hS.trans hK))) (by have := FW.out; omega) (by have := FW.out; omega)).mono fun _ _ h => RetN.at E2.out h).mono ?_); rintro e v7 ⟨X3, x3, rfl, r3, h⟩; have hK := hK.trans h))
  obtain ⟨W7, hW7⟩ : ∃ W7, W7 = v7.alloc (.cells #[.bool n2, .slice X3 s2.length x3] 29) := ⟨_, rfl⟩
  rw [← hW7]
  have hx : Since v7 W7 := by rw [hW7]; exact since_alloc _ _
  have hg := hK.trans hx
  have qbW7 : w.heap.size < v7.heap.size := (hbx.out _ (hS.trans hK)).lt
  have qaW7 : bkW5 < v7.heap.size := (Va.out _ hK).lt
  have qbW7 : bkW6 < v7.heap.size := (Vb.out _ hK).lt
  have Vc : Hid (∀ W', Since W7 W' → Bx W' (v7.heap.size) #[.bool n2, .slice X3 s2.length x3] 29) := fun W' h => Bx.new (hW7 ▸ h) (by simp)
  have r1 := r1.since hg
  have r2 := r2.since hg
  have r3 := r3.since hx
  have Va : Hid (∀ W', Since W7 W' → _) := fun W' h => Va.out W' (hg.trans h)
  have Vb : Hid (∀ W', Since W7 W' → _) := fun W' h => Vb.out W' (hg.trans h)
  have hS := hS.trans hg
  clear hW7 hx hg hK
  generalize v7.heap.size = bkW7 at *
  have hK := Since.refl W7
  have B0 := hbx.out _ (hS.trans hK)
  obtain ⟨k0a, k0b, k0c, k0d⟩ := B0.four
  go_upto_region 9 with (first
    | (go_at_call 27; (with_reducible refine ((Ref04.ceil_any a0 ad0 cap0 cp0 b0 sg0 p0 q0 _ (P0.out.since (hS0.trans (hS.trans hK))) (Q0.out.since (hS0.trans (hS.trans hK))) (by have := FW.out; omega) (by have := FW.out; omega)).mono fun _ _ h => RetN.at E2.out h).mono ?_); rintro e v8 ⟨X4, x4, rfl, r4, h⟩; have hK := hK.trans h))
  obtain ⟨W8, hW8⟩ : ∃ W8, W8 = v8.alloc (.cells #[.bool n2, .slice X4 s2.length x4] 24) := ⟨_, rfl⟩
  rw [← hW8]
  have hx : Since v8 W8 := by rw [hW8]; exact since_alloc _ _
  have hg := hK.trans hx
  have qbW8 : w.heap.size < v8.heap.size := (hbx.out _ (hS.trans hK)).lt
  have qaW8 : bkW5 < v8.heap.size := (Va.out _ hK).lt
  have qbW8 : bkW6 < v8.heap.size := (Vb.out _ hK).lt
  have qcW8 : bkW7 < v8.heap.size := (Vc.out _ hK).lt
  have Vd : Hid (∀ W', Since W8 W' → Bx W' (v8.heap.size) #[.bool n2, .slice X4 s2.length x4] 24) := fun W' h => Bx.new (hW8 ▸ h) (by simp)
  have r1 := r1.since hg
  have r2 := r2.since hg
  have r3 := r3.since hg
  have r4 := r4.since hx
  have Va : Hid (∀ W', Since W8 W' → _) := fun W' h => Va.out W' (hg.trans h)
  have Vb : Hid (∀ W', Since W8 W' → _) := fun W' h => Vb.out W' (hg.trans h)
  have Vc : Hid (∀ W', Since W8 W' → _) := fun W' h => Vc.out W' (hg.trans h)
  have hS := hS.trans hg
  clear hW8 hx hg hK
  generalize v8.heap.size = bkW8 at *
  have hK := Since.refl W8
  have B0 := hbx.out _ (hS.trans hK)
  obtain ⟨k0a, k0b, k0c, k0d⟩ := B0.four
  go_upto_region 10 with (first
    | (go_at_call 12; (with_reducible refine (Law04.theirs_any a0 ad0 p0.length cap0 q0.length cp0 b0 sg0 _).mono ?_); rintro e t6 ⟨rfl, h⟩; have hK := hK.trans h)
    | (go_at_call 28; (with_reducible refine (text_val (ns := Sr04.text_any a0 ad0 cap0 cp0 b0 sg0 p0 q0 _ (P0.out.since (hS0.trans (hS.trans hK))) (Q0.out.since (hS0.trans (hS.trans hK))) (by have := FW.out; omega) (by have := FW.out; omega)) E3.out).mono ?_); rintro e v9 ⟨rfl, h⟩; have hK := hK.trans h; have B0 := hbx.out _ (hS.trans hK); obtain ⟨k0a, k0b, k0c, k0d⟩ := B0.four))
  go_upto_region 11 with (first
    | (go_at_call 29; (with_reducible refine (text_val (ns := Ref04.text_any a0 ad0 cap0 cp0 b0 sg0 p0 q0 _ (P0.out.since (hS0.trans (hS.trans hK))) (Q0.out.since (hS0.trans (hS.trans hK))) (by have := FW.out; omega) (by have := FW.out; omega)) E3.out).mono ?_); rintro e v10 ⟨rfl, h⟩; have hK := hK.trans h; obtain ⟨vaa, vab⟩ := (Va.out _ hK).two; obtain ⟨vba, vbb⟩ := (Vb.out _ hK).two; obtain ⟨vca, vcb⟩ := (Vc.out _ hK).two; obtain ⟨vda, vdb⟩ := (Vd.out _ hK).two))
  go_wp2_with (first
    | (go_at_call 30; (with_reducible refine (same_int X1 X2 x1 x2 n1 s1 _ (r1.since hK) (r2.since hK) (by have := LA.out; omega)).mono ?_); rintro e vs ⟨rfl, h⟩; have hK := hK.trans h; obtain ⟨vaa, vab⟩ := (Va.out _ hK).two; obtain ⟨vba, vbb⟩ := (Vb.out _ hK).two; obtain ⟨vca, vcb⟩ := (Vc.out _ hK).two; obtain ⟨vda, vdb⟩ := (Vd.out _ hK).two)
    | (go_at_call 30; (with_reducible refine (same_int X3 X4 x3 x4 n2 s2 _ (r3.since hK) (r4.since hK) (by have := LB.out; omega)).mono ?_); rintro e vs ⟨rfl, h⟩; have hK := hK.trans h; obtain ⟨vaa, vab⟩ := (Va.out _ hK).two; obtain ⟨vba, vbb⟩ := (Vb.out _ hK).two; obtain ⟨vca, vcb⟩ := (Vc.out _ hK).two; obtain ⟨vda, vdb⟩ := (Vd.out _ hK).two))
  go_ret
  exact ⟨rfl, hS0.trans (hS.trans hK)⟩

set_option maxRecDepth 100000 in
theorem lifted (os : Os) (started : os.Started) (H : Type) (enc : TypeId × Value → H) :
    ReturnsInHanded {} Tryz.checked os 5 .any (fun w args => (Rows.ratioRoundsSpec.pre enc Tryz.prog Tryz.f5 Rows.ratioRoundsRow.domain false w args ∧ laidMetH Tryz.prog Rows.ratioRoundsRow.laid w) ∧ sizedMet enc Tryz.prog Tryz.f5 (OpenSpec.ofChange Rows.ratioRoundsSpec) false w args) (Rows.ratioRoundsSpec.post enc Tryz.prog Tryz.f5 false true false false) := by
  refine returnsInHanded_of_change_and (C := Tryz.checked) (X := fun w _ => laidMetH Tryz.prog Rows.ratioRoundsRow.laid w) (fun _ _ _ hh h => h.of_heap hh) own started (by kernel_rfl) Tryz.func5
    (ChangeSpec.witness_shaped (enc := enc) (C := Tryz.checked) (os := os) (X := fun w _ => laidMetH Tryz.prog Rows.ratioRoundsRow.laid w) false (World.laidAll Tryz.prog os Rows.ratioRoundsRow.laid) #[.agg #[.bool false, .slice none 0 0, .bool false, .slice none 0 0]] 8 (World.laidAll_os _ _ _)
      (World.shaped_of_ZipB (by kernel_rfl) (by kernel_rfl)) (by kernel_rfl) (by kernel_rfl) (by kernel_rfl)
      (by rw [MakeChecks.laidMetH_plain _ _ _ (by kernel_rfl)]; exact laidMet_laidAll _ (by kernel_rfl) (by kernel_rfl))) ?_
  intro W base args ds gs before hval0 hW hcnd _ _ _
  have hval : ∀ (j : Nat) t v, Tryz.f5.params[j]? = some t → args[j]? = some v → Value.okWide Tryz.prog W .any base t v := hval0
  have hW' := hW
  obtain ⟨p, q, hA0, hV, rfl, hfz, hnd⟩ := hW
  have hA : DataW.TrodAll enc Tryz.prog W 0 (fun _ => true) true Tryz.f5.params.toList args.toList ds p := hA0
  rw [Tryz.params5] at hA hval
  obtain ⟨v0, vs0, d0, ds0, p0, q0, hargs, rfl, rfl, h0, r0⟩ := trodAll_cons hA
  obtain ⟨rfl, rfl, rfl⟩ := trodAll_nil r0
  obtain rfl : args = #[v0] := by cases args; simp_all
  obtain ⟨rfl, rfl⟩ := trodVars_none hV
  have k0 := h0
  have lt0 : ∀ x ∈ p0, x.block < W.heap.size := by obtain ⟨m, hm⟩ := k0; exact DataW.trod_lt m _ _ _ hm
  obtain ⟨cb0, cm0, ce0, cr0, yb0, ym0, ye0, yr0, nn0, mm0, rfl, hb0, hm0, he0, hr0⟩ := open_rat Tryz.underlying26 Tryz.underlying24 Tryz.underlying24 rfl rfl cells26 cells24 cells24 (by kernel_rfl) (hval 0 26 v0 rfl rfl) h0
  obtain ⟨b0, ebb0, xbb0⟩ := DataW.trod_bool Tryz.underlying4 hb0
  simp at ebb0
  subst ebb0
  obtain ⟨sg0, ebsg0, xbsg0⟩ := DataW.trod_bool Tryz.underlying4 he0
  simp at ebsg0
  subst ebsg0
  obtain ⟨a0, len0, cap0, em0⟩ := slice_form Tryz.underlying22 hm0
  simp at em0
  subst em0
  obtain ⟨ad0, ln0, cp0, er0⟩ := slice_form Tryz.underlying22 hr0
  simp at er0
  subst er0
  obtain ⟨z0, w0⟩ : ∃ zs, IsRow .u32 W a0 len0 cap0 zs := by
    have hf := hm0
    rcases open_ints Tryz.underlying22 Tryz.underlying88 (by kernel_rfl) hf with ⟨hcs, _⟩ | ⟨x, l, c, zs, hcs, _, hl, hm, hz, _, hcell, hwz⟩
    · simp [Value.cells] at hcs
      obtain ⟨rfl, rfl, rfl⟩ := hcs
      exact ⟨[], .inl ⟨rfl, rfl, rfl, rfl⟩⟩
    · simp [Value.cells] at hcs
      obtain ⟨rfl, rfl, rfl⟩ := hcs
      exact ⟨zs, .inr ⟨_, rfl, hl, hm, by simpa using hz, hcell, hwz⟩⟩
  obtain ⟨y0, u0⟩ : ∃ zs, IsRow .u32 W ad0 ln0 cp0 zs := by
    have hf := hr0
    rcases open_ints Tryz.underlying22 Tryz.underlying88 (by kernel_rfl) hf with ⟨hcs, _⟩ | ⟨x, l, c, zs, hcs, _, hl, hm, hz, _, hcell, hwz⟩
    · simp [Value.cells] at hcs
      obtain ⟨rfl, rfl, rfl⟩ := hcs
      exact ⟨[], .inl ⟨rfl, rfl, rfl, rfl⟩⟩
    · simp [Value.cells] at hcs
      obtain ⟨rfl, rfl, rfl⟩ := hcs
      exact ⟨zs, .inr ⟨_, rfl, hl, hm, by simpa using hz, hcell, hwz⟩⟩
  clear hA0 hval0
  refine (walk b0 a0 len0 cap0 sg0 ad0 ln0 cp0 z0 y0 W w0 u0).mono fun e W' ⟨he, bel⟩ => ?_
  subst he
  exact ⟨_, rfl, _, _, _, [], _, [], hW', trodAll_mk1 (shut_bool Tryz.underlying4 _), (trodAll_cons_mk (Below.trod laidOut (by kernel_rfl) (of_decide_eq_true (by kernel_rfl)) k0 bel lt0) trodAll_mk0), rfl, bel.frame _, fun h => by cases h⟩

theorem over : Rows.ratioRoundsRow.holds Tryz.pinned (OpenSpec.ofChange Rows.ratioRoundsSpec) :=
  OpenClaim.holds_of_wide 5 Tryz.f5 rfl rfl rfl rfl rfl rfl rfl ⟨rfl, rfl, rfl, rfl, rfl⟩ rfl rfl rfl rfl rfl (by kernel_rfl) Tryz.func5 (by kernel_rfl)
    (of_decide_eq_true (by kernel_rfl)) (by unfold Func.isWrapper; first | (rw [if_pos (by decide +kernel)]; kernel_rfl) | (rw [if_neg (by decide +kernel)]; exact ⟨rfl, rfl⟩))
    (fun os started H enc _ => lifted os started H enc)

/-- THE STATEMENT: the tied card -/
theorem proved : Rows.RatioRoundsCardSaid :=
  Claim7.holds_tied_plain_at .later [] _ _ _ _ over (fun _ h => by cases h) (by kernel_rfl) (fun _ h => by cases h) ratioRounds_row_tie rfl ⟨rfl, rfl⟩ (by kernel_rfl) rfl
    (fun f fn hf hfn => by
      obtain rfl : f = 5 := Option.some.inj ((show Tryz.prog.funcNamed "touchstone/touchstonelaw04.RatioRounds" = some 5 by kernel_rfl).symm.trans hf) |>.symm
      obtain rfl : fn = Tryz.f5 := (Option.some.inj (Tryz.func5.symm.trans hfn)).symm
      exact ⟨by kernel_rfl, fun j t ht => by
        rw [Tryz.params5] at ht
        have hm : t ∈ [26] := by simpa using Array.mem_of_getElem? ht
        have hall : ([26].all fun u => !Tryz.prog.wantsStandIn u) = true := by kernel_rfl
        exact (show Tryz.prog.wantsStandIn t = false by simpa using List.all_eq_true.1 hall t hm)⟩)
    (by kernel_rfl)
#print axioms proved
end Go.Proofs.YtbbemgeinlehmaaGreatDoor.ratioRounds
