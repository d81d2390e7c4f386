/-
  For all constraints and domains: the law ReifyNarrows returns true (what a sum with a flag leaves of any domains is the document's, or it fails, or is refused). No condition.
-/
import Derived.Test.YtoegbgkgenjplaaRows
import Derived.WalkKit
import Derived.ProofKit
import Derived.OpenShut
import Derived.ShutString
import Derived.ChangeOld
import Derived.Below
import Derived.Test.YtoegbgkgenjplaaLk
import Derived.Test.YtoegbgkgenjplaaLq
import Derived.Test.YtoegbgkgenjplaaWl
import Derived.Test.YtoegbgkgenjplaaWm
import Derived.Test.YtoegbgkgenjplaaVo
import Derived.Test.YtoegbgkgenjplaaQbk
namespace Go.Proofs.Ytoegbgkgenjplaa.reifyNarrows
open Go.ChangeShapes Go.WideShapes Go.ChangeAt Go.RowKit
open Go.ChangeMaps (open_string shut_string)
open Go.Proofs.Ytoegbgkgenjplaa.Dig Go.Proofs.Ytoegbgkgenjplaa.Zs Go.Proofs.Ytoegbgkgenjplaa.Tr Go.Proofs.Ytoegbgkgenjplaa.Sn Go.Proofs.Ytoegbgkgenjplaa.Ln Go.Proofs.Ytoegbgkgenjplaa.Rf
open Go.Proofs.Ytoegbgkgenjplaa.Ti (Sl QR stR)
set_option linter.unusedVariables false

theorem own : ownKnob Try.prog.godebug = none := by kernel_rfl
theorem laidOut : laidOutB Try.prog = true := by kernel_rfl

/-- WHAT THE WALK IS TOLD OF A SLICE OF INTEGERS THAT CAME IN: it is nil; or it leads to a row of 'cap' cells, the numbers 'zs' (the first 'len' are its elements, the rest its spare room), each fitting its kind. -/
def IsRow (k : IntKind) (w : World) (a : Option Addr) (len cap : Nat) (zs : List Int) : Prop :=
  (a = none ∧ len = 0 ∧ cap = 0 ∧ zs = []) ∨
  ∃ x, a = some x ∧ len ≤ cap ∧ cap ≤ maxLen ∧ zs.length = cap ∧ (∀ i, i < zs.length → w.cell? (x.add i) = some (.int k (zs.getD i 0))) ∧ ∀ n ∈ zs, (Lit.int k n).wf = true

set_option maxRecDepth 100000 in
set_option maxHeartbeats 3000000 in
theorem walk (k0k : Int) (X0 : Option Addr) (n0 xc0 : Nat) (Y0 : Option Addr) (m0 yc0 : Nat) (e0 : Int) (z0 : Go.Proofs.Ytoegbgkgenjplaa.Sn.Cn) (a1 : Option Addr) (len1 cap1 : Nat) (z1 : Go.Proofs.Ytoegbgkgenjplaa.Tr.Ds) (w : World) (w0 : Go.Proofs.Ytoegbgkgenjplaa.Sn.ConIn w k0k X0 n0 xc0 Y0 m0 yc0 e0 z0) (w1 : Go.Proofs.Ytoegbgkgenjplaa.Tr.DomsIn w a1 len1 cap1 z1) :
    Calls Try.prog 8 #[.agg #[.int .i64 k0k, .slice X0 n0 xc0, .slice Y0 m0 yc0, .int .i64 e0], .slice a1 len1 cap1] w fun e w' => e = .returned (.bool true) ∧ Since w w' := by
  obtain ⟨hC, hBC, hcx, hca⟩ := w0
  obtain ⟨hl1, hD, hB1, hL1⟩ := w1
  subst hl1
  have AL := Lib.hid (fun W => Go.Proofs.Ytoegbgkgenjplaa.Rf.alive13_any W)
  have FI := Lib.hid (fun W (k : Since w W) => fits12_any _ _ z0 z1 W (hC.since k) (hD.since stD k) hL1 (fun d hd => (hB1 d hd).2) hcx hca)
  have S0 := Lib.hid (since_alloc w (.cells #[.int .i64 k0k, .slice X0 n0 xc0, .slice Y0 m0 yc0, .int .i64 e0] 25))
  have B0 := Lib.hid (Bx.fresh w #[.int .i64 k0k, .slice X0 n0 xc0, .slice Y0 m0 yc0, .int .i64 e0] 25)
  obtain ⟨f, hf⟩ : ∃ f, fits12 z0 z1 = f := ⟨_, rfl⟩
  rw [hf] at FI
  cases f with
  | false =>
    clear hf hC hD hB1 hL1 hBC hcx hca
    obtain ⟨b0, b1, b2, b3⟩ := bx4 B0.out
    go_enter Try.func8, Try.ntmps8
    go_wp2_with (first | (go_at_call 32; (with_reducible refine (AL.out _).mono ?_); rintro e w1 ⟨rfl, k1⟩; have U1 := Lib.hid k1; have T1 := Lib.hid (S0.out.trans k1); obtain ⟨b0, b1, b2, b3⟩ := bx4 (B0.out.since k1); clear k1) | (go_at_call 24; (with_reducible refine (FI.out _ T1.out).mono ?_); rintro e w2 ⟨rfl, k2⟩; have U2 := Lib.hid (U1.out.trans k2); have T2 := Lib.hid (T1.out.trans k2); obtain ⟨b0, b1, b2, b3⟩ := bx4 (B0.out.since U2.out); clear k2))
    go_ret
    exact ⟨rfl, T2.out⟩
  | true =>
  obtain ⟨hsz, h100⟩ := fits12_sz hf
  have hbd : ∀ d ∈ z1, Bd d := fun d hd => (hB1 d hd).1
  have NA := Lib.hid (fun W (k : Since w W) => reify_any _ _ z0 z1 W (hC.since k) (hD.since stD k) hsz)
  have NB := Lib.hid (fun W (k : Since w W) => rreify_any _ _ z0 z1 W (hC.since k) (hD.since stD k) hsz hbd)
  have NG := Lib.hid (fun E (h : (reiO z0 z1).1 = some E) => reiO_good h)
  generalize reiO z0 z1 = r at *
  obtain ⟨o, p⟩ := r
  unfold RetNr at NA
  unfold RetNd at NB
  clear hf hC hD hB1 hL1 hBC hcx hca hsz h100 hbd
  obtain ⟨b0, b1, b2, b3⟩ := bx4 B0.out
  cases o with
  | none =>
    have DM := Lib.hid (fun W v1 v2 (h1 : Sl 1 QD W v1 []) (h2 : EAt W v2 []) => show Calls Try.prog 35 #[v1, v2] W (Go.Proofs.Ytoegbgkgenjplaa.Zs.RetT true W) from doms_any v1 v2 [] [] W h1 h2 (by simp) (by simp) (fun d hd => by cases hd))
    simp only [Option.getD_none, List.length_nil] at NA NB
    go_enter Try.func8, Try.ntmps8
    go_wp2_with (first
      | (go_at_call 32; (with_reducible refine (AL.out _).mono ?_); rintro e w1 ⟨rfl, k1⟩; have U1 := Lib.hid k1; have T1 := Lib.hid (S0.out.trans k1); obtain ⟨b0, b1, b2, b3⟩ := bx4 (B0.out.since k1); clear k1)
      | (go_at_call 24; (with_reducible refine (FI.out _ T1.out).mono ?_); rintro e w2 ⟨rfl, k2⟩; have U2 := Lib.hid (U1.out.trans k2); have T2 := Lib.hid (T1.out.trans k2); obtain ⟨b0, b1, b2, b3⟩ := bx4 (B0.out.since U2.out); clear k2)
      | (go_at_call 33; (with_reducible refine (NA.out _ T2.out).mono ?_); rintro e w3 ⟨k3, rfl⟩; have T3 := Lib.hid (T2.out.trans k3); have U3 := Lib.hid (U2.out.trans k3); obtain ⟨b0, b1, b2, b3⟩ := bx4 (B0.out.since U3.out); clear k3)
      | (go_at_call 34; (with_reducible refine (NB.out _ T3.out).mono ?_); rintro e w4 ⟨A4, n4, c4, rfl, rfl, h4, k4⟩; have T4 := Lib.hid (T3.out.trans k4); have H4 := Lib.hid h4; clear k4 h4)
      | (go_at_call 35; (with_reducible refine (DM.out _ _ _ (Sl.nil _ _ _) H4.out).mono ?_); rintro e w5 ⟨rfl, k5⟩; have T5 := Lib.hid (T4.out.trans k5); clear k5))
    go_ret
    exact ⟨by simp, T5.out⟩
  | some E =>
    obtain ⟨g1, g2, g3⟩ := NG.out E rfl
    have DM := Lib.hid (fun W v1 v2 (h1 : Sl 1 QD W v1 E) (h2 : EAt W v2 E) => show Calls Try.prog 35 #[v1, v2] W (Go.Proofs.Ytoegbgkgenjplaa.Zs.RetT true W) by have := doms_any v1 v2 E E W h1 h2 (by omega) (by omega) (fun d hd => right_len (g1 d hd).1); rw [decide_eq_true rfl] at this; exact this)
    simp only [Option.getD_some] at NA NB
    clear NG g1 g2 g3
    go_enter Try.func8, Try.ntmps8
    go_wp2_with (first
      | (go_at_call 32; (with_reducible refine (AL.out _).mono ?_); rintro e w1 ⟨rfl, k1⟩; have U1 := Lib.hid k1; have T1 := Lib.hid (S0.out.trans k1); obtain ⟨b0, b1, b2, b3⟩ := bx4 (B0.out.since k1); clear k1)
      | (go_at_call 24; (with_reducible refine (FI.out _ T1.out).mono ?_); rintro e w2 ⟨rfl, k2⟩; have U2 := Lib.hid (U1.out.trans k2); have T2 := Lib.hid (T1.out.trans k2); obtain ⟨b0, b1, b2, b3⟩ := bx4 (B0.out.since U2.out); clear k2)
      | (go_at_call 33; (with_reducible refine (NA.out _ T2.out).mono ?_); rintro e w3 ⟨k3, g, n, rfl, hg1, hg2, hD3⟩; have T3 := Lib.hid (T2.out.trans k3); have U3 := Lib.hid (U2.out.trans k3); have D3 := Lib.hid hD3.sl; obtain ⟨b0, b1, b2, b3⟩ := bx4 (B0.out.since U3.out); clear k3 hg1 hg2 hD3)
      | (go_at_call 34; (with_reducible refine (NB.out _ T3.out).mono ?_); rintro e w4 ⟨A4, n4, c4, rfl, hn4, h4, k4⟩; have T4 := Lib.hid (T3.out.trans k4); have H4 := Lib.hid h4; have D4 := Lib.hid (D3.out.since stD k4); clear k4 h4)
      | (go_at_call 35; (with_reducible refine (DM.out _ _ _ D4.out H4.out).mono ?_); rintro e w5 ⟨rfl, k5⟩; have T5 := Lib.hid (T4.out.trans k5); clear k5))
    go_ret
    exact ⟨by simp, T5.out⟩

set_option maxRecDepth 100000 in
theorem lifted (os : Os) (started : os.Started) (H : Type) (enc : TypeId × Value → H) :
    ReturnsInHanded {} Try.checked os 8 .any (Rows.reifyNarrowsSpec.pre6 enc Try.prog Try.f8 Rows.reifyNarrowsRow.domain false) (Rows.reifyNarrowsSpec.post enc Try.prog Try.f8 false true false false) := by
  refine returnsInHanded_of_change (C := Try.checked) own started (by kernel_rfl) Try.func8
    (ChangeSpec.witness6 (enc := enc) (C := Try.checked) false ⟨#[], #[.agg #[.int .i64 0, .slice none 0 0, .slice none 0 0, .int .i64 0], .slice none 0 0], []⟩ 8 (by kernel_rfl) (by kernel_rfl) (by kernel_rfl) (by kernel_rfl)) ?_
  intro W base args ds gs before hval0 hW hcnd _
  have hval : ∀ (j : Nat) t v, Try.f8.params[j]? = some t → args[j]? = some v → Value.okWide Try.prog W .any base t v := hval0
  have hW' := hW
  obtain ⟨p, q, hA0, hV, rfl, hfz, hnd⟩ := hW
  have hA : DataW.TrodAll enc Try.prog W 0 (fun _ => true) true Try.f8.params.toList args.toList ds p := hA0
  rw [Try.params8] at hA hval
  obtain ⟨v0, vs0, d0, ds0, p0, q0, hargs, rfl, rfl, h0, r0⟩ := trodAll_cons hA
  obtain ⟨v1, vs1, d1, ds1, p1, q1, rfl, rfl, rfl, h1, r1⟩ := trodAll_cons r0
  obtain ⟨rfl, rfl, rfl⟩ := trodAll_nil r1
  obtain rfl : args = #[v0, v1] := by cases args; simp_all
  obtain ⟨rfl, rfl⟩ := trodVars_none hV
  obtain ⟨k0k, X0, n0, xc0, Y0, m0, yc0, e0, rfl, z0, w0⟩ := Go.Proofs.Ytoegbgkgenjplaa.Sn.con_in ⟨Try.underlying25, ⟨rfl, rfl, rfl, rfl⟩, ⟨by kernel_rfl, by kernel_rfl, by kernel_rfl, by kernel_rfl⟩, Try.underlying3, Try.underlying22, Try.underlying23, Try.underlying2, Try.underlying3, by kernel_rfl, Try.underlying2, by kernel_rfl⟩ (by kernel_rfl) (hval 0 25 v0 rfl rfl) h0
  have k0 := h0
  have lt0 : ∀ x ∈ p0, x.block < W.heap.size := by obtain ⟨m, hm⟩ := k0; exact DataW.trod_lt m _ _ _ hm
  obtain ⟨a1, len1, cap1, rfl⟩ := okWide_slice Try.underlying30 (hval 1 30 v1 rfl rfl)
  have k1 := h1
  have lt1 : ∀ x ∈ p1, x.block < W.heap.size := by obtain ⟨m, hm⟩ := k1; exact DataW.trod_lt m _ _ _ hm
  obtain ⟨z1, w1⟩ : ∃ zs, Go.Proofs.Ytoegbgkgenjplaa.Tr.DomsIn W a1 len1 cap1 zs := by
    obtain ⟨fuel, hf⟩ := h1
    exact Go.Proofs.Ytoegbgkgenjplaa.Tr.doms_in Try.underlying30 (by kernel_rfl) Try.underlying50 Try.underlying49 (by kernel_rfl) rfl rfl (by kernel_rfl) (by kernel_rfl) Try.underlying2 Try.underlying2 hf
  clear hA0 hval0
  refine (walk k0k X0 n0 xc0 Y0 m0 yc0 e0 z0 a1 len1 cap1 z1 W w0 w1).mono fun e W' ⟨he, bel⟩ => ?_
  subst he
  exact ⟨_, rfl, _, _, _, [], _, [], hW', trodAll_mk1 (shut_bool Try.underlying4 _), (trodAll_cons_mk (Below.trod laidOut (by kernel_rfl) (of_decide_eq_true (by kernel_rfl)) k0 bel lt0) (trodAll_cons_mk (Below.trod laidOut (by kernel_rfl) (of_decide_eq_true (by kernel_rfl)) k1 bel lt1) trodAll_mk0)), rfl, bel.frame _, fun h => by cases h⟩

theorem over : Rows.reifyNarrowsRow.holds Try.pinned (OpenSpec.ofChange Rows.reifyNarrowsSpec) :=
  OpenClaim.holds_of_wide 8 Try.f8 rfl rfl rfl rfl rfl rfl rfl ⟨rfl, rfl, rfl, rfl, rfl⟩ rfl rfl rfl rfl rfl (by kernel_rfl) Try.func8 (by kernel_rfl)
    (of_decide_eq_true (by kernel_rfl)) (by unfold Func.isWrapper; first | (rw [if_pos (by decide +kernel)]; kernel_rfl) | (rw [if_neg (by decide +kernel)]; exact ⟨rfl, rfl⟩))
    (fun os started H enc _ => lifted os started H enc)

/-- THE STATEMENT -/
theorem proved : Rows.ReifyNarrowsSaid := over
#print axioms proved
end Go.Proofs.Ytoegbgkgenjplaa.reifyNarrows
