/-
  For all numbers a and b of layer 3 (a sign, and a slice of 32-bit numbers): the law SignedSums returns true (Add, Mul and Neg answer as the document does, where neither has more than 30 digits) and leaves both as they were. No condition.
-/
import Derived.Test.YtmnankcllblgjaaRows
import Derived.WalkKit
import Derived.ProofKit
import Derived.OpenShut
import Derived.ShutString
import Derived.ChangeOld
import Derived.Below
import Derived.Lib.SmallJoins
import Derived.Test.YtmnankcllblgjaaLw
import Derived.Test.YtmnankcllblgjaaSb
import Derived.Test.YtmnankcllblgjaaSd
import Derived.Test.YtmnankcllblgjaaRc
import Derived.Test.YtmnankcllblgjaaRd
import Derived.Test.YtmnankcllblgjaaWd
import Derived.Deep.RegionHeld3
import Derived.Deep.DeepCutAuto
namespace Go.Proofs.Ytmnankcllblgjaa.signedSums
open Go.Joins
open Go.ChangeShapes Go.WideShapes Go.ChangeAt Go.RowKit
open Go.ChangeMaps (open_string shut_string)
open Go.Proofs.Ytmnankcllblgjaa.Dig
open Go.Proofs.Ytmnankcllblgjaa.Ref03 (sv RetZ addZ mulZ negZ RetQR divZ gcdZ srightB hold2of)
set_option linter.unusedVariables false
set_option linter.unusedSimpArgs false

theorem cells24 : Try.prog.cellsOf 24 = 2 := by kernel_rfl
theorem own : ownKnob Try.prog.godebug = none := by kernel_rfl
theorem laidOut : laidOutB Try.prog = true := by kernel_rfl

/-- WHAT THE WALK IS TOLD OF A SLICE OF INTEGERS THAT CAME IN: it is nil; or it leads to a row of 'cap' cells, the numbers 'zs' (the first 'len' are its elements, the rest its spare room), each fitting its kind. -/
def IsRow (k : IntKind) (w : World) (a : Option Addr) (len cap : Nat) (zs : List Int) : Prop :=
  (a = none ∧ len = 0 ∧ cap = 0 ∧ zs = []) ∨
  ∃ x, a = some x ∧ len ≤ cap ∧ cap ≤ maxLen ∧ zs.length = cap ∧ (∀ i, i < zs.length → w.cell? (x.add i) = some (.int k (zs.getD i 0))) ∧ ∀ n ∈ zs, (Lit.int k n).wf = true

set_option maxRecDepth 100000 in
set_option maxHeartbeats 4000000 in
theorem walk (b0 : Bool) (a0 : Option Addr) (len0 cap0 : Nat) (z0 : List Int) (b1 : Bool) (a1 : Option Addr) (len1 cap1 : Nat) (z1 : List Int) (w : World) (w0 : IsRow .u32 w a0 len0 cap0 z0) (w1 : IsRow .u32 w a1 len1 cap1 z1) :
    Calls Try.prog 4 #[.agg #[.bool b0, .slice a0 len0 cap0], .agg #[.bool b1, .slice a1 len1 cap1]] w fun e w' => e = .returned (.bool true) ∧ Since w w' := by
  obtain ⟨d0, hl0, hr0⟩ := row_in w0
  have R0 := Lib.hid hr0
  obtain ⟨d1, hl1, hr1⟩ := row_in w1
  have R1 := Lib.hid hr1
  clear w0 hr0 w1 hr1
  obtain ⟨W0, hW0⟩ : ∃ W0, W0 = (w.alloc (.cells #[.bool b0, .slice a0 len0 cap0] 24)).alloc (.cells #[.bool b1, .slice a1 len1 cap1] 24) := ⟨_, rfl⟩
  have HW := Lib.hid hW0
  have hold : Hid (∀ W : World, Since W0 W → (W.cell? ⟨w.heap.size, 0, none⟩ = some (.bool b0) ∧ W.cell? ⟨w.heap.size, 1, none⟩ = some (.slice a0 len0 cap0) ∧ W.cell? ⟨w.heap.size + 1, 0, none⟩ = some (.bool b1) ∧ W.cell? ⟨w.heap.size + 1, 1, none⟩ = some (.slice a1 len1 cap1)) ∧ Since w W) := fun W h => ⟨hold2of (hW0 ▸ h), by rw [hW0] at h; exact (((Since.refl w).alloc _).alloc _).trans h⟩
  have hS0 : Since w W0 := by rw [hW0]; exact ((Since.refl w).alloc _).alloc _
  clear hW0
  have hS := Since.refl W0
  by_cases g0 : 30 < len0
  · skip
    have HF := Lib.hid (show (decide (d0.length ≤ 30) && decide (d1.length ≤ 30)) = false by simp; omega)
    subst hl0 hl1
    clear g0
    go_enter Try.func4, Try.ntmps4
    go_wp2_with fail
    rw [← HW.out]
    go_wp2_with (first
      | (go_at_call 9; (with_reducible refine (Alive03.alive _).mono ?_); rintro e v0 ⟨rfl, hv0⟩; have hS := hS.trans hv0; obtain ⟨⟨k0, k1, k2, k3⟩, _⟩ := hold.out _ hS)
      | (go_at_call 10; (with_reducible refine (Law03.few_two _ _ ⟨b0, a0, cap0, d0⟩ ⟨b1, a1, cap1, d1⟩).mono ?_); rw [HF.out]; rintro e vf ⟨rfl, hvf⟩; have hS := hS.trans hvf))
    go_ret
    exact ⟨rfl, hS0.trans hS⟩
  by_cases g1 : 30 < len1
  · skip
    have HF := Lib.hid (show (decide (d0.length ≤ 30) && decide (d1.length ≤ 30)) = false by simp; omega)
    subst hl0 hl1
    clear g1 g0
    go_enter Try.func4, Try.ntmps4
    go_wp2_with fail
    rw [← HW.out]
    go_wp2_with (first
      | (go_at_call 9; (with_reducible refine (Alive03.alive _).mono ?_); rintro e v0 ⟨rfl, hv0⟩; have hS := hS.trans hv0; obtain ⟨⟨k0, k1, k2, k3⟩, _⟩ := hold.out _ hS)
      | (go_at_call 10; (with_reducible refine (Law03.few_two _ _ ⟨b0, a0, cap0, d0⟩ ⟨b1, a1, cap1, d1⟩).mono ?_); rw [HF.out]; rintro e vf ⟨rfl, hvf⟩; have hS := hS.trans hvf))
    go_ret
    exact ⟨rfl, hS0.trans hS⟩
  have L0 : d0.length ≤ 30 := by omega
  have L1 : d1.length ≤ 30 := by omega
  have LL := Lib.hid (And.intro L0 L1)
  have HF := Lib.hid (show (decide (d0.length ≤ 30) && decide (d1.length ≤ 30)) = true by simp [L0, L1])
  subst hl0 hl1
  have M0 := Lib.hid (show d0.length ≤ 1000 by omega)
  have M1 := Lib.hid (show d1.length ≤ 1000 by omega)
  obtain ⟨⟨⟨n1, s1⟩, e1⟩, E1⟩ : ∃ r, addZ b0 d0 b1 d1 = r := ⟨_, rfl⟩
  have E1 := Lib.hid E1
  obtain ⟨⟨⟨n2, s2⟩, e2⟩, E2⟩ : ∃ r, mulZ b0 d0 b1 d1 = r := ⟨_, rfl⟩
  have E2 := Lib.hid E2
  obtain ⟨⟨⟨n3, s3⟩, e3⟩, E3⟩ : ∃ r, negZ b0 d0 = r := ⟨_, rfl⟩
  have E3 := Lib.hid E3
  clear L0 L1 g0 g1
  go_enter Try.func4, Try.ntmps4
  go_wp2_with fail
  rw [← HW.out]
  go_upto_region 5 with (first
    | (go_at_call 9; (with_reducible refine (Alive03.alive _).mono ?_); rintro e v0 ⟨rfl, hv0⟩; have hS := hS.trans hv0; obtain ⟨⟨k0, k1, k2, k3⟩, _⟩ := hold.out _ hS)
    | (go_at_call 10; (with_reducible refine (Law03.few_two _ _ ⟨b0, a0, cap0, d0⟩ ⟨b1, a1, cap1, d1⟩).mono ?_); rw [HF.out]; rintro e vf ⟨rfl, hvf⟩; have hS := hS.trans hvf; obtain ⟨⟨k0, k1, k2, k3⟩, _⟩ := hold.out _ hS))
  go_cut [5, 6] (fun p e W => ∃ b A q, p = .pointer (some ⟨b, 0, none⟩) ∧ e = .int .i64 e1 ∧ Since W0 W ∧ Row W (.slice A s1.length q) s1 ∧ Hid (∀ W', Since W W' → W'.cell? ⟨b, 0, none⟩ = some (.bool n1) ∧ W'.cell? ⟨b, 1, none⟩ = some (.slice A s1.length q)))
  case first =>
    go_region_held3 (fun W => (W.cell? ⟨w.heap.size, 0, none⟩ = some (.bool b0) ∧ W.cell? ⟨w.heap.size, 1, none⟩ = some (.slice a0 d0.length cap0) ∧ W.cell? ⟨w.heap.size + 1, 0, none⟩ = some (.bool b1) ∧ W.cell? ⟨w.heap.size + 1, 1, none⟩ = some (.slice a1 d1.length cap1)) ∧ Since w W)
      (first | exact hold.out _ (Since.trans ‹Since W0 _› (since_set2 hB _ _)) | exact hold.out _ ‹Since W0 _› | exact hold.out _ (Since.drew ‹Since W0 _›) | exact hold.out _ (Since.alloc ‹Since W0 _› _) | exact hold.out _ (Since.drew (Since.alloc ‹Since W0 _› _)) | exact hold.out _ (Since.alloc (Since.drew ‹Since W0 _›) _))
      (first
        | (go_at_call 12; (with_reducible refine (Law03.theirs_any a0 d0.length cap0 b0 (World.drew (World.alloc _ _))).mono ?_); rintro e t1 ⟨rfl, ht⟩; have hB := Since.trans (Since.drew (Since.refl _)) ht; have hT1 := (Since.drew (Since.alloc hS _)).trans ht; have hA := True.intro)
        | (go_at_call 12; (with_reducible refine (Law03.theirs_any a0 d0.length cap0 b0 (World.alloc (World.drew _) _)).mono ?_); rintro e t1 ⟨rfl, ht⟩; have hB := ht; have hT1 := (Since.alloc (Since.drew hS) _).trans ht)
        | (go_at_call 12; (with_reducible refine (Law03.theirs_any a0 d0.length cap0 b0 (World.drew _)).mono ?_); rintro e t1 ⟨rfl, ht⟩; have hT1 := (Since.drew hS).trans ht)
        | (go_at_call 12; (with_reducible refine (Law03.theirs_any a1 d1.length cap1 b1 (World.alloc _ _)).mono ?_); rintro e t2 ⟨rfl, ht⟩; have hB := ht; have hT2 := (Since.alloc hT1 _).trans ht)
        | (go_at_call 12; (with_reducible refine (Law03.theirs_any a1 d1.length cap1 b1 _).mono ?_); rintro e t2 ⟨rfl, ht⟩; have hB := hB.trans ht; have hT2 := hT1.trans ht)
        | (go_at_call 12; (with_reducible refine (Law03.theirs_any a1 d1.length cap1 b1 _).mono ?_); rintro e t2 ⟨rfl, ht⟩; have hT2 := hT1.trans ht)
        | (go_at_call 22; (with_reducible refine (Sg03.add_any a0 a1 cap0 cap1 b0 b1 d0 d1 (World.alloc _ _) (R0.out.since (hS0.trans (hT2.alloc _))) (R1.out.since (hS0.trans (hT2.alloc _))) M0.out M1.out).mono ?_); rw [E1.out]; rintro e x1 ⟨A1, q1, rfl, r1, hx⟩; have hX1 := Since.trans (hT2.alloc _) hx; have hB := hx; obtain ⟨y0, y1, y2, y3⟩ := keep2 hB)
        | (go_at_call 22; (with_reducible refine (Sg03.add_any a0 a1 cap0 cap1 b0 b1 d0 d1 _ (R0.out.since (hS0.trans hT2)) (R1.out.since (hS0.trans hT2)) M0.out M1.out).mono ?_); rw [E1.out]; rintro e x1 ⟨A1, q1, rfl, r1, hx⟩; have hX1 := Since.trans hT2 hx; have hB := hB.trans hx; obtain ⟨y0, y1, y2, y3⟩ := keep2 hB)
        | (go_at_call 22; (with_reducible refine (Sg03.add_any a0 a1 cap0 cap1 b0 b1 d0 d1 _ (R0.out.since (hS0.trans hT2)) (R1.out.since (hS0.trans hT2)) M0.out M1.out).mono ?_); rw [E1.out]; rintro e x1 ⟨A1, q1, rfl, r1, hx⟩; have hX1 := Since.trans hT2 hx; have hC := True.intro))
    all_goals
      go_wp2_with fail
      go_meet
      first
        | exact ⟨_, A1, q1, rfl, rfl, Since.trans ‹Since W0 _› (since_set2 hB _ _), row_set2 r1 hB _ _, Lib.hid (Law03.var_set hB)⟩
        | exact ⟨_, A1, q1, rfl, rfl, Since.alloc hX1 _, r1.since (since_alloc _ _), Lib.hid fun W' h => ⟨(keep2 h).1, (keep2 h).2.1⟩⟩
  case rest =>
    obtain ⟨v1, A1, q1, rfl, rfl, hS, r1, V1⟩ := hcut
    obtain ⟨⟨k0, k1, k2, k3⟩, _⟩ := hold.out _ hS
    go_upto_region 7 with (first
      | (go_at_call 23; (with_reducible refine (Ref03.add_any a0 a1 cap0 cap1 b0 b1 d0 d1 _ (R0.out.since (hS0.trans hS)) (R1.out.since (hS0.trans hS)) M0.out M1.out).mono ?_); rw [E1.out]; rintro e x2 ⟨A2, q2, rfl, r2, hx2⟩; have hS := hS.trans hx2; obtain ⟨⟨k0, k1, k2, k3⟩, _⟩ := hold.out _ hS))
    obtain ⟨W2, hW2⟩ : ∃ W2, W2 = x2.alloc (.cells #[.bool n1, .slice A2 s1.length q2] 24) := ⟨_, rfl⟩
    rw [← hW2]
    have V2 : Hid (∀ W', Since W2 W' → W'.cell? ⟨x2.heap.size, 0, none⟩ = some (.bool n1) ∧ W'.cell? ⟨x2.heap.size, 1, none⟩ = some (.slice A2 s1.length q2)) := fun W' h => by rw [hW2] at h; exact ⟨(keep2 h).1, (keep2 h).2.1⟩
    have hx2 : Since x2 W2 := by rw [hW2]; exact since_alloc _ _
    have r1 := (r1.since ‹Since _ x2›).since hx2
    have r2 := r2.since hx2
    have V1 : Hid (∀ W', Since W2 W' → _) := fun W' h => V1.out W' ((‹Since _ x2›.trans hx2).trans h)
    have hS := hS.trans hx2
    obtain ⟨⟨k0, k1, k2, k3⟩, _⟩ := hold.out _ hS
    generalize x2.heap.size = v2 at *
    clear hW2 hx2
    have hZ := hS
    have hS := Since.refl W2
    go_cut [9, 10] (fun p e W => ∃ b A q, p = .pointer (some ⟨b, 0, none⟩) ∧ e = .int .i64 e2 ∧ Since W2 W ∧ Row W (.slice A s2.length q) s2 ∧ Hid (∀ W', Since W W' → W'.cell? ⟨b, 0, none⟩ = some (.bool n2) ∧ W'.cell? ⟨b, 1, none⟩ = some (.slice A s2.length q)))
    case first =>
      go_region_held3 (fun W => (W.cell? ⟨w.heap.size, 0, none⟩ = some (.bool b0) ∧ W.cell? ⟨w.heap.size, 1, none⟩ = some (.slice a0 d0.length cap0) ∧ W.cell? ⟨w.heap.size + 1, 0, none⟩ = some (.bool b1) ∧ W.cell? ⟨w.heap.size + 1, 1, none⟩ = some (.slice a1 d1.length cap1)) ∧ Since w W)
        (first | exact hold.out _ (hZ.trans <| Since.trans ‹Since W2 _› (since_set2 hB _ _)) | exact hold.out _ (hZ.trans ‹Since W2 _›) | exact hold.out _ (hZ.trans <| Since.drew ‹Since W2 _›) | exact hold.out _ (hZ.trans <| Since.alloc ‹Since W2 _› _) | exact hold.out _ (hZ.trans <| Since.drew (Since.alloc ‹Since W2 _› _)) | exact hold.out _ (hZ.trans <| Since.alloc (Since.drew ‹Since W2 _›) _))
        (first
          | (go_at_call 12; (with_reducible refine (Law03.theirs_any a0 d0.length cap0 b0 (World.drew (World.alloc _ _))).mono ?_); rintro e t1 ⟨rfl, ht⟩; have hB := Since.trans (Since.drew (Since.refl _)) ht; have hT1 := (Since.drew (Since.alloc hS _)).trans ht; have hA := True.intro)
          | (go_at_call 12; (with_reducible refine (Law03.theirs_any a0 d0.length cap0 b0 (World.alloc (World.drew _) _)).mono ?_); rintro e t1 ⟨rfl, ht⟩; have hB := ht; have hT1 := (Since.alloc (Since.drew hS) _).trans ht)
          | (go_at_call 12; (with_reducible refine (Law03.theirs_any a0 d0.length cap0 b0 (World.drew _)).mono ?_); rintro e t1 ⟨rfl, ht⟩; have hT1 := (Since.drew hS).trans ht)
          | (go_at_call 12; (with_reducible refine (Law03.theirs_any a1 d1.length cap1 b1 (World.alloc _ _)).mono ?_); rintro e t2 ⟨rfl, ht⟩; have hB := ht; have hT2 := (Since.alloc hT1 _).trans ht)
          | (go_at_call 12; (with_reducible refine (Law03.theirs_any a1 d1.length cap1 b1 _).mono ?_); rintro e t2 ⟨rfl, ht⟩; have hB := hB.trans ht; have hT2 := hT1.trans ht)
          | (go_at_call 12; (with_reducible refine (Law03.theirs_any a1 d1.length cap1 b1 _).mono ?_); rintro e t2 ⟨rfl, ht⟩; have hT2 := hT1.trans ht)
          | (go_at_call 24; (with_reducible refine (Sg03.mul_any a0 a1 cap0 cap1 b0 b1 d0 d1 (World.alloc _ _) (R0.out.since ((hS0.trans hZ).trans (hT2.alloc _))) (R1.out.since ((hS0.trans hZ).trans (hT2.alloc _))) M0.out M1.out).mono ?_); rw [E2.out]; rintro e x1 ⟨A1, q1, rfl, r1, hx⟩; have hX1 := Since.trans (hT2.alloc _) hx; have hB := hx; obtain ⟨y0, y1, y2, y3⟩ := keep2 hB)
          | (go_at_call 24; (with_reducible refine (Sg03.mul_any a0 a1 cap0 cap1 b0 b1 d0 d1 _ (R0.out.since ((hS0.trans hZ).trans hT2)) (R1.out.since ((hS0.trans hZ).trans hT2)) M0.out M1.out).mono ?_); rw [E2.out]; rintro e x1 ⟨A1, q1, rfl, r1, hx⟩; have hX1 := Since.trans hT2 hx; have hB := hB.trans hx; obtain ⟨y0, y1, y2, y3⟩ := keep2 hB)
          | (go_at_call 24; (with_reducible refine (Sg03.mul_any a0 a1 cap0 cap1 b0 b1 d0 d1 _ (R0.out.since ((hS0.trans hZ).trans hT2)) (R1.out.since ((hS0.trans hZ).trans hT2)) M0.out M1.out).mono ?_); rw [E2.out]; rintro e x1 ⟨A1, q1, rfl, r1, hx⟩; have hX1 := Since.trans hT2 hx; have hC := True.intro))
      all_goals
        go_wp2_with fail
        go_meet
        first
          | exact ⟨_, A1, q1, rfl, rfl, Since.trans ‹Since W2 _› (since_set2 hB _ _), row_set2 r1 hB _ _, Lib.hid (Law03.var_set hB)⟩
          | exact ⟨_, A1, q1, rfl, rfl, Since.alloc hX1 _, r1.since (since_alloc _ _), Lib.hid fun W' h => ⟨(keep2 h).1, (keep2 h).2.1⟩⟩
    case rest =>
      obtain ⟨v3, A3, q3, rfl, rfl, hc, r3, V3⟩ := hcut
      have hS := hZ.trans hc
      obtain ⟨⟨k0, k1, k2, k3⟩, _⟩ := hold.out _ hS
      have r1 := r1.since hc
      have r2 := r2.since hc
      have V1 : Hid (∀ W', Since wc W' → _) := fun W' h => V1.out W' (hc.trans h)
      have V2 : Hid (∀ W', Since wc W' → _) := fun W' h => V2.out W' (hc.trans h)
      go_upto_region 9 with (first
        | (go_at_call 25; (with_reducible refine (Ref03.mul_any a0 a1 cap0 cap1 b0 b1 d0 d1 _ (R0.out.since (hS0.trans hS)) (R1.out.since (hS0.trans hS)) M0.out M1.out).mono ?_); rw [E2.out]; rintro e x4 ⟨A4, q4, rfl, r4, hx4⟩; have hS := hS.trans hx4; obtain ⟨⟨k0, k1, k2, k3⟩, _⟩ := hold.out _ hS))
      obtain ⟨W4, hW4⟩ : ∃ W4, W4 = x4.alloc (.cells #[.bool n2, .slice A4 s2.length q4] 24) := ⟨_, rfl⟩
      rw [← hW4]
      have V4 : Hid (∀ W', Since W4 W' → W'.cell? ⟨x4.heap.size, 0, none⟩ = some (.bool n2) ∧ W'.cell? ⟨x4.heap.size, 1, none⟩ = some (.slice A4 s2.length q4)) := fun W' h => by rw [hW4] at h; exact ⟨(keep2 h).1, (keep2 h).2.1⟩
      have hx : Since x4 W4 := by rw [hW4]; exact since_alloc _ _
      have hg := hx4.trans hx
      have r1 := r1.since hg
      have V1 : Hid (∀ W', Since W4 W' → _) := fun W' h => V1.out W' (hg.trans h)
      have r2 := r2.since hg
      have V2 : Hid (∀ W', Since W4 W' → _) := fun W' h => V2.out W' (hg.trans h)
      have r3 := r3.since hg
      have V3 : Hid (∀ W', Since W4 W' → _) := fun W' h => V3.out W' (hg.trans h)
      have r4 := r4.since hx
      have hS := hS.trans hx
      obtain ⟨⟨k0, k1, k2, k3⟩, _⟩ := hold.out _ hS
      clear hW4
      generalize x4.heap.size = v4 at *
      go_upto_region 10 with (first
        | (go_at_call 12; (with_reducible refine (Law03.theirs_any a0 d0.length cap0 b0 _).mono ?_); rintro e t5 ⟨rfl, ht5⟩; have hS := hS.trans ht5; obtain ⟨⟨k0, k1, k2, k3⟩, _⟩ := hold.out _ hS)
        | (go_at_call 26; (with_reducible refine (Sg03.neg_any a0 cap0 b0 d0 _ (R0.out.since (hS0.trans hS)) M0.out).mono ?_); rw [E3.out]; rintro e x5 ⟨A5, q5, rfl, r5, hx5⟩; have hS := hS.trans hx5; have hx5 := ht5.trans hx5; obtain ⟨⟨k0, k1, k2, k3⟩, _⟩ := hold.out _ hS))
      obtain ⟨W5, hW5⟩ : ∃ W5, W5 = x5.alloc (.cells #[.bool n3, .slice A5 s3.length q5] 30) := ⟨_, rfl⟩
      rw [← hW5]
      have V5 : Hid (∀ W', Since W5 W' → W'.cell? ⟨x5.heap.size, 0, none⟩ = some (.bool n3) ∧ W'.cell? ⟨x5.heap.size, 1, none⟩ = some (.slice A5 s3.length q5)) := fun W' h => by rw [hW5] at h; exact ⟨(keep2 h).1, (keep2 h).2.1⟩
      have hx : Since x5 W5 := by rw [hW5]; exact since_alloc _ _
      have hg := hx5.trans hx
      have r1 := r1.since hg
      have V1 : Hid (∀ W', Since W5 W' → _) := fun W' h => V1.out W' (hg.trans h)
      have r2 := r2.since hg
      have V2 : Hid (∀ W', Since W5 W' → _) := fun W' h => V2.out W' (hg.trans h)
      have r3 := r3.since hg
      have V3 : Hid (∀ W', Since W5 W' → _) := fun W' h => V3.out W' (hg.trans h)
      have r4 := r4.since hg
      have V4 : Hid (∀ W', Since W5 W' → _) := fun W' h => V4.out W' (hg.trans h)
      have r5 := r5.since hx
      have hS := hS.trans hx
      obtain ⟨⟨k0, k1, k2, k3⟩, _⟩ := hold.out _ hS
      clear hW5
      generalize x5.heap.size = v5 at *
      go_upto_region 11 with (first
        | (go_at_call 27; (with_reducible refine (Ref03.neg_any a0 cap0 b0 d0 _ (R0.out.since (hS0.trans hS)) M0.out).mono ?_); rw [E3.out]; rintro e x6 ⟨A6, q6, rfl, r6, hx6⟩; have hS := hS.trans hx6; obtain ⟨⟨k0, k1, k2, k3⟩, _⟩ := hold.out _ hS))
      obtain ⟨W6, hW6⟩ : ∃ W6, W6 = x6.alloc (.cells #[.bool n3, .slice A6 s3.length q6] 24) := ⟨_, rfl⟩
      rw [← hW6]
      have V6 : Hid (∀ W', Since W6 W' → W'.cell? ⟨x6.heap.size, 0, none⟩ = some (.bool n3) ∧ W'.cell? ⟨x6.heap.size, 1, none⟩ = some (.slice A6 s3.length q6)) := fun W' h => by rw [hW6] at h; exact ⟨(keep2 h).1, (keep2 h).2.1⟩
      have hx : Since x6 W6 := by rw [hW6]; exact since_alloc _ _
      have hg := hx6.trans hx
      have r1 := r1.since hg
      have V1 : Hid (∀ W', Since W6 W' → _) := fun W' h => V1.out W' (hg.trans h)
      have r2 := r2.since hg
      have V2 : Hid (∀ W', Since W6 W' → _) := fun W' h => V2.out W' (hg.trans h)
      have r3 := r3.since hg
      have V3 : Hid (∀ W', Since W6 W' → _) := fun W' h => V3.out W' (hg.trans h)
      have r4 := r4.since hg
      have V4 : Hid (∀ W', Since W6 W' → _) := fun W' h => V4.out W' (hg.trans h)
      have r5 := r5.since hg
      have V5 : Hid (∀ W', Since W6 W' → _) := fun W' h => V5.out W' (hg.trans h)
      have r6 := r6.since hx
      have hS := hS.trans hx
      obtain ⟨⟨k0, k1, k2, k3⟩, _⟩ := hold.out _ hS
      clear hW6
      generalize x6.heap.size = v6 at *
      have LS1 : s1.length ≤ 10000 := by have h := Ref03.addZ_len b0 d0 b1 d1; rw [E1.out] at h; exact Nat.le_trans h (by omega)
      have LS2 : s2.length ≤ 10000 := by have h := Ref03.mulZ_len b0 d0 b1 d1; rw [E2.out] at h; exact Nat.le_trans h (by omega)
      have LS3 : s3.length ≤ 10000 := by have h := Ref03.negZ_len b0 R0.out.dig; rw [E3.out] at h; exact Nat.le_trans h (by have := M0.out; omega)
      have LS1 := Lib.hid LS1
      have LS2 := Lib.hid LS2
      have LS3 := Lib.hid LS3
      have hall : Hid (∀ W : World, Since W6 W → ((W.cell? ⟨v1, 0, none⟩ = some (.bool n1) ∧ W.cell? ⟨v1, 1, none⟩ = some (.slice A1 s1.length q1)) ∧ (W.cell? ⟨v2, 0, none⟩ = some (.bool n1) ∧ W.cell? ⟨v2, 1, none⟩ = some (.slice A2 s1.length q2)) ∧ (W.cell? ⟨v3, 0, none⟩ = some (.bool n2) ∧ W.cell? ⟨v3, 1, none⟩ = some (.slice A3 s2.length q3)) ∧ (W.cell? ⟨v4, 0, none⟩ = some (.bool n2) ∧ W.cell? ⟨v4, 1, none⟩ = some (.slice A4 s2.length q4)) ∧ (W.cell? ⟨v5, 0, none⟩ = some (.bool n3) ∧ W.cell? ⟨v5, 1, none⟩ = some (.slice A5 s3.length q5)) ∧ (W.cell? ⟨v6, 0, none⟩ = some (.bool n3) ∧ W.cell? ⟨v6, 1, none⟩ = some (.slice A6 s3.length q6))) ∧ Since w W) := fun W h => ⟨⟨V1.out _ h, V2.out _ h, V3.out _ h, V4.out _ h, V5.out _ h, V6.out _ h⟩, (hS0.trans hS).trans h⟩
      have hR0 := Since.refl W6
      go_region_held3 (fun W => ((W.cell? ⟨v1, 0, none⟩ = some (.bool n1) ∧ W.cell? ⟨v1, 1, none⟩ = some (.slice A1 s1.length q1)) ∧ (W.cell? ⟨v2, 0, none⟩ = some (.bool n1) ∧ W.cell? ⟨v2, 1, none⟩ = some (.slice A2 s1.length q2)) ∧ (W.cell? ⟨v3, 0, none⟩ = some (.bool n2) ∧ W.cell? ⟨v3, 1, none⟩ = some (.slice A3 s2.length q3)) ∧ (W.cell? ⟨v4, 0, none⟩ = some (.bool n2) ∧ W.cell? ⟨v4, 1, none⟩ = some (.slice A4 s2.length q4)) ∧ (W.cell? ⟨v5, 0, none⟩ = some (.bool n3) ∧ W.cell? ⟨v5, 1, none⟩ = some (.slice A5 s3.length q5)) ∧ (W.cell? ⟨v6, 0, none⟩ = some (.bool n3) ∧ W.cell? ⟨v6, 1, none⟩ = some (.slice A6 s3.length q6))) ∧ Since w W)
        (first | exact hall.out _ hR | exact hall.out _ (Since.drew hR0) | exact hall.out _ hR0)
        (first
        | (go_at_call 19; (with_reducible refine (Law03.ours_any A1 s1.length q1 n1 _).mono ?_); rintro e o1 ⟨rfl, h⟩; have hR := (Since.drew (Since.refl W6)).trans h)
        | (go_at_call 18; (with_reducible refine (Law03.same_self A1 A2 q1 q2 n1 s1 _ (r1.since hR) (r2.since hR) LS1.out).mono ?_); rintro e m1 ⟨rfl, h⟩; have hR := hR.trans h)
        | (go_at_call 19; (with_reducible refine (Law03.ours_any A3 s2.length q3 n2 _).mono ?_); rintro e o2 ⟨rfl, h⟩; have hR := hR.trans h)
        | (go_at_call 18; (with_reducible refine (Law03.same_self A3 A4 q3 q4 n2 s2 _ (r3.since hR) (r4.since hR) LS2.out).mono ?_); rintro e m2 ⟨rfl, h⟩; have hR := hR.trans h)
        | (go_at_call 19; (with_reducible refine (Law03.ours_any A5 s3.length q5 n3 _).mono ?_); rintro e o3 ⟨rfl, h⟩; have hR := hR.trans h)
        | (go_at_call 18; (with_reducible refine (Law03.same_self A5 A6 q5 q6 n3 s3 _ (r5.since hR) (r6.since hR) LS3.out).mono ?_); rintro e m3 ⟨rfl, h⟩; have hR := hR.trans h))
      go_wp2_with fail
      go_ret
      exact ⟨rfl, (hS0.trans hS).trans hR⟩

set_option maxRecDepth 100000 in
theorem lifted (os : Os) (started : os.Started) (H : Type) (enc : TypeId × Value → H) :
    ReturnsInHanded {} Try.checked os 4 .any (Rows.signedSumsSpec.pre6 enc Try.prog Try.f4 Rows.signedSumsRow.domain false) (Rows.signedSumsSpec.post enc Try.prog Try.f4 false true false false) := by
  refine returnsInHanded_of_change (C := Try.checked) own started (by kernel_rfl) Try.func4
    (ChangeSpec.witness6 (enc := enc) (C := Try.checked) false ⟨#[], #[.agg #[.bool false, .slice none 0 0], .agg #[.bool false, .slice none 0 0]], []⟩ 8 (by kernel_rfl) (by kernel_rfl) (by kernel_rfl) (by kernel_rfl)) ?_
  intro W base args ds gs before hval0 hW hcnd _
  have hval : ∀ (j : Nat) t v, Try.f4.params[j]? = some t → args[j]? = some v → Value.okWide Try.prog W .any base t v := hval0
  have hW' := hW
  obtain ⟨p, q, hA0, hV, rfl, hfz, hnd⟩ := hW
  have hA : DataW.TrodAll enc Try.prog W 0 (fun _ => true) true Try.f4.params.toList args.toList ds p := hA0
  rw [Try.params4] at hA hval
  obtain ⟨v0, vs0, d0, ds0, p0, q0, hargs, rfl, rfl, h0, r0⟩ := trodAll_cons hA
  obtain ⟨v1, vs1, d1, ds1, p1, q1, rfl, rfl, rfl, h1, r1⟩ := trodAll_cons r0
  obtain ⟨rfl, rfl, rfl⟩ := trodAll_nil r1
  obtain rfl : args = #[v0, v1] := by cases args; simp_all
  obtain ⟨rfl, rfl⟩ := trodVars_none hV
  have k0 := h0
  have lt0 : ∀ x ∈ p0, x.block < W.heap.size := by obtain ⟨m, hm⟩ := k0; exact DataW.trod_lt m _ _ _ hm
  obtain ⟨cb0, cm0, yb0, ym0, mm0, rfl, rfl, rfl, hb0, hm0⟩ := open_agg2 Try.underlying24 (by kernel_rfl) cells24 (hval 0 24 v0 rfl rfl) h0
  obtain ⟨b0, eb0, xb0⟩ := DataW.trod_bool Try.underlying4 hb0
  simp at eb0
  subst eb0
  obtain ⟨a0, len0, cap0, em0⟩ := slice_form Try.underlying22 hm0
  simp at em0
  subst em0
  obtain ⟨z0, w0⟩ : ∃ zs, IsRow .u32 W a0 len0 cap0 zs := by
    have hf := hm0
    rcases open_ints Try.underlying22 Try.underlying59 (by kernel_rfl) hf with ⟨hcs, _⟩ | ⟨x, l, c, zs, hcs, _, hl, hm, hz, _, hcell, hwz⟩
    · simp [Value.cells] at hcs
      obtain ⟨rfl, rfl, rfl⟩ := hcs
      exact ⟨[], .inl ⟨rfl, rfl, rfl, rfl⟩⟩
    · simp [Value.cells] at hcs
      obtain ⟨rfl, rfl, rfl⟩ := hcs
      exact ⟨zs, .inr ⟨_, rfl, hl, hm, by simpa using hz, hcell, hwz⟩⟩
  have k1 := h1
  have lt1 : ∀ x ∈ p1, x.block < W.heap.size := by obtain ⟨m, hm⟩ := k1; exact DataW.trod_lt m _ _ _ hm
  obtain ⟨cb1, cm1, yb1, ym1, mm1, rfl, rfl, rfl, hb1, hm1⟩ := open_agg2 Try.underlying24 (by kernel_rfl) cells24 (hval 1 24 v1 rfl rfl) h1
  obtain ⟨b1, eb1, xb1⟩ := DataW.trod_bool Try.underlying4 hb1
  simp at eb1
  subst eb1
  obtain ⟨a1, len1, cap1, em1⟩ := slice_form Try.underlying22 hm1
  simp at em1
  subst em1
  obtain ⟨z1, w1⟩ : ∃ zs, IsRow .u32 W a1 len1 cap1 zs := by
    have hf := hm1
    rcases open_ints Try.underlying22 Try.underlying59 (by kernel_rfl) hf with ⟨hcs, _⟩ | ⟨x, l, c, zs, hcs, _, hl, hm, hz, _, hcell, hwz⟩
    · simp [Value.cells] at hcs
      obtain ⟨rfl, rfl, rfl⟩ := hcs
      exact ⟨[], .inl ⟨rfl, rfl, rfl, rfl⟩⟩
    · simp [Value.cells] at hcs
      obtain ⟨rfl, rfl, rfl⟩ := hcs
      exact ⟨zs, .inr ⟨_, rfl, hl, hm, by simpa using hz, hcell, hwz⟩⟩
  clear hA0 hval0
  refine (walk b0 a0 len0 cap0 z0 b1 a1 len1 cap1 z1 W w0 w1).mono fun e W' ⟨he, bel⟩ => ?_
  subst he
  exact ⟨_, rfl, _, _, _, [], _, [], hW', trodAll_mk1 (shut_bool Try.underlying4 _), (trodAll_cons_mk (Below.trod laidOut (by kernel_rfl) (of_decide_eq_true (by kernel_rfl)) k0 bel lt0) (trodAll_cons_mk (Below.trod laidOut (by kernel_rfl) (of_decide_eq_true (by kernel_rfl)) k1 bel lt1) trodAll_mk0)), rfl, bel.frame _, fun h => by cases h⟩

theorem over : Rows.signedSumsRow.holds Try.pinned (OpenSpec.ofChange Rows.signedSumsSpec) :=
  OpenClaim.holds_of_wide 4 Try.f4 rfl rfl rfl rfl rfl rfl rfl ⟨rfl, rfl, rfl, rfl, rfl⟩ rfl rfl rfl rfl rfl (by kernel_rfl) Try.func4 (by kernel_rfl)
    (of_decide_eq_true (by kernel_rfl)) (by unfold Func.isWrapper; first | (rw [if_pos (by decide +kernel)]; kernel_rfl) | (rw [if_neg (by decide +kernel)]; exact ⟨rfl, rfl⟩))
    (fun os started H enc _ => lifted os started H enc)

/-- THE STATEMENT -/
theorem proved : Rows.SignedSumsSaid := over
#print axioms proved
end Go.Proofs.Ytmnankcllblgjaa.signedSums
