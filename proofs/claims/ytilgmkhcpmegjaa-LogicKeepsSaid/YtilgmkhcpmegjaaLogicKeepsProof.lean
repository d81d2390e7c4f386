/-
  For all constraints and domains: the law LogicKeeps returns true (no values for which a constraint on truth values holds are lost, and where it fails there are none; no domain gets a value). No condition.
-/
import Derived.Test.YtilgmkhcpmegjaaRows
import Derived.WalkKit
import Derived.ProofKit
import Derived.OpenShut
import Derived.ShutString
import Derived.ChangeOld
import Derived.Below
import Derived.Test.YtilgmkhcpmegjaaCo
import Derived.Test.YtilgmkhcpmegjaaQan
import Derived.Test.YtilgmkhcpmegjaaCr
import Derived.Test.YtilgmkhcpmegjaaQbt
import Derived.Test.YtilgmkhcpmegjaaVo
import Derived.Test.YtilgmkhcpmegjaaQbp
namespace Go.Proofs.Ytilgmkhcpmegjaa.logicKeeps
open Go.ChangeShapes Go.WideShapes Go.ChangeAt Go.RowKit
open Go.ChangeMaps (open_string shut_string)
open Go.Proofs.Ytilgmkhcpmegjaa.Dig Go.Proofs.Ytilgmkhcpmegjaa.Zs Go.Proofs.Ytilgmkhcpmegjaa.Tr Go.Proofs.Ytilgmkhcpmegjaa.Sn Go.Proofs.Ytilgmkhcpmegjaa.Ln Go.Proofs.Ytilgmkhcpmegjaa.At Go.Proofs.Ytilgmkhcpmegjaa.Lgc Go.Proofs.Ytilgmkhcpmegjaa.Ev
open Go.Proofs.Ytilgmkhcpmegjaa.Ti (Sl QR stR elR)
set_option linter.unusedVariables false

theorem own : ownKnob Try.prog.godebug = none := by kernel_rfl
theorem laidOut : laidOutB Try.prog = true := by kernel_rfl

/-- WHAT THE WALK IS TOLD OF A SLICE OF INTEGERS THAT CAME IN: it is nil; or it leads to a row of 'cap' cells, the numbers 'zs' (the first 'len' are its elements, the rest its spare room), each fitting its kind. -/
def IsRow (k : IntKind) (w : World) (a : Option Addr) (len cap : Nat) (zs : List Int) : Prop :=
  (a = none ∧ len = 0 ∧ cap = 0 ∧ zs = []) ∨
  ∃ x, a = some x ∧ len ≤ cap ∧ cap ≤ maxLen ∧ zs.length = cap ∧ (∀ i, i < zs.length → w.cell? (x.add i) = some (.int k (zs.getD i 0))) ∧ ∀ n ∈ zs, (Lit.int k n).wf = true

set_option maxRecDepth 100000 in
set_option maxHeartbeats 3000000 in
theorem walk (k0k : Int) (X0 : Option Addr) (n0 xc0 : Nat) (Y0 : Option Addr) (m0 yc0 : Nat) (e0 : Int) (z0 : Go.Proofs.Ytilgmkhcpmegjaa.Sn.Cn) (a1 : Option Addr) (len1 cap1 : Nat) (z1 : Go.Proofs.Ytilgmkhcpmegjaa.Tr.Ds) (w : World) (w0 : Go.Proofs.Ytilgmkhcpmegjaa.Sn.ConIn w k0k X0 n0 xc0 Y0 m0 yc0 e0 z0) (w1 : Go.Proofs.Ytilgmkhcpmegjaa.Tr.DomsIn w a1 len1 cap1 z1) :
    Calls Try.prog 4 #[.agg #[.int .i64 k0k, .slice X0 n0 xc0, .slice Y0 m0 yc0, .int .i64 e0], .slice a1 len1 cap1] w fun e w' => e = .returned (.bool true) ∧ Since w w' := by
  obtain ⟨hC, hBC, hcx, hca⟩ := w0
  obtain ⟨hl1, hD, hB1, hL1⟩ := w1
  subst hl1
  have AL := Lib.hid (fun W => Go.Proofs.Ytilgmkhcpmegjaa.Lgc.alive15_any W)
  have FI := Lib.hid (fun W (k : Since w W) => fits12_any _ _ z0 z1 W (hC.since k) (hD.since stD k) hL1 (fun d hd => (hB1 d hd).2) hcx hca)
  have S0 := Lib.hid (since_alloc w (.cells #[.int .i64 k0k, .slice X0 n0 xc0, .slice Y0 m0 yc0, .int .i64 e0] 25))
  have B0 := Lib.hid (Bx.fresh w #[.int .i64 k0k, .slice X0 n0 xc0, .slice Y0 m0 yc0, .int .i64 e0] 25)
  obtain ⟨f, hf⟩ : ∃ f, fits12 z0 z1 = f := ⟨_, rfl⟩
  rw [hf] at FI
  cases f with
  | false =>
    clear hf hC hD hB1 hL1 hBC hcx hca
    obtain ⟨b0, b1, b2, b3⟩ := bx4 B0.out
    go_enter Try.func4, Try.ntmps4
    go_wp2_with (first | (go_at_call 15; (with_reducible refine (AL.out _).mono ?_); rintro e w1 ⟨rfl, k1⟩; have U1 := Lib.hid k1; have T1 := Lib.hid (S0.out.trans k1); obtain ⟨b0, b1, b2, b3⟩ := bx4 (B0.out.since k1); clear k1) | (go_at_call 16; (with_reducible refine (FI.out _ T1.out).mono ?_); rintro e w2 ⟨rfl, k2⟩; have U2 := Lib.hid (U1.out.trans k2); have T2 := Lib.hid (T1.out.trans k2); obtain ⟨b0, b1, b2, b3⟩ := bx4 (B0.out.since U2.out); clear k2))
    go_ret
    exact ⟨rfl, T2.out⟩
  | true =>
  obtain ⟨hsz, h100⟩ := fits12_sz hf
  have hbd : ∀ d ∈ z1, Bd d := fun d hd => (hB1 d hd).1
  have FW := Lib.hid (fun W (k : Since w W) => few2_any _ z1 W (hD.since stD k) (by omega) (fun d hd => ⟨hsz.1 d hd, hbd d hd⟩))
  have MI := Lib.hid (fun W (k : Since w W) => mine_any _ _ z0 z1 W (hC.since k) (hD.since stD k) hL1 (fun d hd => (hB1 d hd).2) hcx hca hbd)
  clear hf
  obtain ⟨m, hm⟩ : ∃ m, mineB z0 z1 = m := ⟨_, rfl⟩
  rw [hm] at MI
  cases m with
  | false =>
    clear hC hD hB1 hL1 hBC hcx hca hsz h100 hbd hm
    obtain ⟨b0, b1, b2, b3⟩ := bx4 B0.out
    go_enter Try.func4, Try.ntmps4
    go_wp2_with (first | (go_at_call 15; (with_reducible refine (AL.out _).mono ?_); rintro e w1 ⟨rfl, k1⟩; have U1 := Lib.hid k1; have T1 := Lib.hid (S0.out.trans k1); obtain ⟨b0, b1, b2, b3⟩ := bx4 (B0.out.since k1); clear k1) | (go_at_call 16; (with_reducible refine (FI.out _ T1.out).mono ?_); rintro e w2 ⟨rfl, k2⟩; have U2 := Lib.hid (U1.out.trans k2); have T2 := Lib.hid (T1.out.trans k2); obtain ⟨b0, b1, b2, b3⟩ := bx4 (B0.out.since U2.out); clear k2) | (go_at_call 20; (with_reducible refine (FW.out _ T2.out).mono ?_); rintro e w3 (⟨rfl, k3⟩ | ⟨rfl, hp3, k3⟩) <;> (have U3 := Lib.hid (U2.out.trans k3); have T3 := Lib.hid (T2.out.trans k3); obtain ⟨b0, b1, b2, b3⟩ := bx4 (B0.out.since U3.out); clear k3)) | (go_at_call 21; (with_reducible refine (MI.out _ T3.out).mono ?_); rintro e w4 ⟨rfl, k4⟩; have U4 := Lib.hid (U3.out.trans k4); have T4 := Lib.hid (T3.out.trans k4); obtain ⟨b0, b1, b2, b3⟩ := bx4 (B0.out.since U4.out); clear k4))
    all_goals first | (go_ret; exact ⟨rfl, T4.out⟩) | (go_ret; exact ⟨rfl, T3.out⟩)
  | true =>
  obtain ⟨hk, -, -, hmo⟩ := mine_parts hm
  obtain ⟨m1, m2, m3⟩ := mod_parts hmo
  have hk5 := lk4 hk
  have NA := Lib.hid (fun W (k : Since w W) => logic_any _ _ z0 z1 W (hC.since k) (hD.since stD k) hsz)
  rw [logO_is hmo hk rfl] at NA
  have KE := Lib.hid (fun a (ha : Wi z1 a) (hh : holds z0 a = true) => log_keeps hmo hk ha hh)
  have G1 := Lib.hid (fun E (he : logL z0.k z0.x z0.a z1 = some E) => And.intro ((log_ok m3 hk).ok _ _ m1 rfl he).1 ((log_ok m3 hk).ok _ _ m1 rfl he).2.1)
  generalize logL z0.k z0.x z0.a z1 = R at *
  have KN := Lib.hid (fun (hR : R = none) W (k : Since w W) (hp : prodF z1 ≤ 400) => kept_noG _ _ z0 z1 W (hC.since k) (hD.since stD k) (by omega) m1 hp hsz hk5 (fun a ha hh => by
    obtain ⟨E, hE, -⟩ := KE.out a ha hh
    rw [hE] at hR; cases hR))
  have KY := Lib.hid (fun E (hR : R = some E) W vo (k : Since w W) (hp : prodF z1 ≤ 400) (hO : Sl 1 QD W vo E) => kept_yesG _ _ vo z0 z1 E W (hC.since k) (hD.since stD k) (by omega) m1 hp hsz hk5 hO (G1.out E hR).1 (G1.out E hR).2 (fun a ha hh => by
    obtain ⟨E', hE, hs⟩ := KE.out a ha hh
    rw [hE] at hR; cases hR; exact hs))
  clear KE G1
  unfold RetNr at NA
  clear hC hD hB1 hL1 hBC hcx hca hsz h100 hbd hm hmo hk m1 m2 m3 hk5
  obtain ⟨b0, b1, b2, b3⟩ := bx4 B0.out
  cases R with
  | none =>
    have KN2 := Lib.hid (fun W (k : Since w W) (hp : prodF z1 ≤ 400) => KN.out rfl W k hp)
    clear KY KN
    simp only [Option.isSome_none, Bool.false_eq_true, if_false] at NA
    go_enter Try.func4, Try.ntmps4
    go_wp2_with (first | (go_at_call 15; (with_reducible refine (AL.out _).mono ?_); rintro e w1 ⟨rfl, k1⟩; have U1 := Lib.hid k1; have T1 := Lib.hid (S0.out.trans k1); obtain ⟨b0, b1, b2, b3⟩ := bx4 (B0.out.since k1); clear k1) | (go_at_call 16; (with_reducible refine (FI.out _ T1.out).mono ?_); rintro e w2 ⟨rfl, k2⟩; have U2 := Lib.hid (U1.out.trans k2); have T2 := Lib.hid (T1.out.trans k2); obtain ⟨b0, b1, b2, b3⟩ := bx4 (B0.out.since U2.out); clear k2) | (go_at_call 20; (with_reducible refine (FW.out _ T2.out).mono ?_); rintro e w3 (⟨rfl, k3⟩ | ⟨rfl, hp3, k3⟩) <;> (have U3 := Lib.hid (U2.out.trans k3); have T3 := Lib.hid (T2.out.trans k3); obtain ⟨b0, b1, b2, b3⟩ := bx4 (B0.out.since U3.out); clear k3)) | (go_at_call 21; (with_reducible refine (MI.out _ T3.out).mono ?_); rintro e w4 ⟨rfl, k4⟩; have U4 := Lib.hid (U3.out.trans k4); have T4 := Lib.hid (T3.out.trans k4); obtain ⟨b0, b1, b2, b3⟩ := bx4 (B0.out.since U4.out); clear k4) | (go_at_call 17; ((with_reducible refine (NA.out _ T4.out).mono ?_); rintro e w5 ⟨k5, rfl⟩; have T5 := Lib.hid (T4.out.trans k5); have U5 := Lib.hid (U4.out.trans k5); obtain ⟨b0, b1, b2, b3⟩ := bx4 (B0.out.since U5.out); clear k5)) | (go_at_call 22; ((with_reducible refine (KN2.out _ T5.out hp3).mono ?_); rintro e w6 ⟨rfl, k6⟩; have T6 := Lib.hid (T5.out.trans k6); clear k6)))
    all_goals first | (go_ret; exact ⟨rfl, T6.out⟩) | (go_ret; exact ⟨rfl, T3.out⟩)
  | some E =>
    have KY := Lib.hid (fun W vo k hp hO => KY.out E rfl W vo k hp hO)
    clear KN
    simp only [Option.isSome_some, if_true] at NA
    go_enter Try.func4, Try.ntmps4
    go_wp2_with (first | (go_at_call 15; (with_reducible refine (AL.out _).mono ?_); rintro e w1 ⟨rfl, k1⟩; have U1 := Lib.hid k1; have T1 := Lib.hid (S0.out.trans k1); obtain ⟨b0, b1, b2, b3⟩ := bx4 (B0.out.since k1); clear k1) | (go_at_call 16; (with_reducible refine (FI.out _ T1.out).mono ?_); rintro e w2 ⟨rfl, k2⟩; have U2 := Lib.hid (U1.out.trans k2); have T2 := Lib.hid (T1.out.trans k2); obtain ⟨b0, b1, b2, b3⟩ := bx4 (B0.out.since U2.out); clear k2) | (go_at_call 20; (with_reducible refine (FW.out _ T2.out).mono ?_); rintro e w3 (⟨rfl, k3⟩ | ⟨rfl, hp3, k3⟩) <;> (have U3 := Lib.hid (U2.out.trans k3); have T3 := Lib.hid (T2.out.trans k3); obtain ⟨b0, b1, b2, b3⟩ := bx4 (B0.out.since U3.out); clear k3)) | (go_at_call 21; (with_reducible refine (MI.out _ T3.out).mono ?_); rintro e w4 ⟨rfl, k4⟩; have U4 := Lib.hid (U3.out.trans k4); have T4 := Lib.hid (T3.out.trans k4); obtain ⟨b0, b1, b2, b3⟩ := bx4 (B0.out.since U4.out); clear k4) | (go_at_call 17; ((with_reducible refine (NA.out _ T4.out).mono ?_); rintro e w5 ⟨k5, g, n, rfl, hg1, hg2, hD5⟩; have T5 := Lib.hid (T4.out.trans k5); have U5 := Lib.hid (U4.out.trans k5); have D5 := Lib.hid hD5.sl; obtain ⟨b0, b1, b2, b3⟩ := bx4 (B0.out.since U5.out); clear k5 hg1 hg2 hD5)) | (go_at_call 22; ((with_reducible refine (KY.out _ _ T5.out hp3 D5.out).mono ?_); rintro e w6 ⟨rfl, k6⟩; have T6 := Lib.hid (T5.out.trans k6); clear k6)))
    all_goals first | (go_ret; exact ⟨rfl, T6.out⟩) | (go_ret; exact ⟨rfl, T3.out⟩)

set_option maxRecDepth 100000 in
theorem lifted (os : Os) (started : os.Started) (H : Type) (enc : TypeId × Value → H) :
    ReturnsInHanded {} Try.checked os 4 .any (Rows.logicKeepsSpec.pre6 enc Try.prog Try.f4 Rows.logicKeepsRow.domain false) (Rows.logicKeepsSpec.post enc Try.prog Try.f4 false true false false) := by
  refine returnsInHanded_of_change (C := Try.checked) own started (by kernel_rfl) Try.func4
    (ChangeSpec.witness6 (enc := enc) (C := Try.checked) false ⟨#[], #[.agg #[.int .i64 0, .slice none 0 0, .slice none 0 0, .int .i64 0], .slice none 0 0], []⟩ 8 (by kernel_rfl) (by kernel_rfl) (by kernel_rfl) (by kernel_rfl)) ?_
  intro W base args ds gs before hval0 hW hcnd _
  have hval : ∀ (j : Nat) t v, Try.f4.params[j]? = some t → args[j]? = some v → Value.okWide Try.prog W .any base t v := hval0
  have hW' := hW
  obtain ⟨p, q, hA0, hV, rfl, hfz, hnd⟩ := hW
  have hA : DataW.TrodAll enc Try.prog W 0 (fun _ => true) true Try.f4.params.toList args.toList ds p := hA0
  rw [Try.params4] at hA hval
  obtain ⟨v0, vs0, d0, ds0, p0, q0, hargs, rfl, rfl, h0, r0⟩ := trodAll_cons hA
  obtain ⟨v1, vs1, d1, ds1, p1, q1, rfl, rfl, rfl, h1, r1⟩ := trodAll_cons r0
  obtain ⟨rfl, rfl, rfl⟩ := trodAll_nil r1
  obtain rfl : args = #[v0, v1] := by cases args; simp_all
  obtain ⟨rfl, rfl⟩ := trodVars_none hV
  obtain ⟨k0k, X0, n0, xc0, Y0, m0, yc0, e0, rfl, z0, w0⟩ := Go.Proofs.Ytilgmkhcpmegjaa.Sn.con_in ⟨Try.underlying25, ⟨rfl, rfl, rfl, rfl⟩, ⟨by kernel_rfl, by kernel_rfl, by kernel_rfl, by kernel_rfl⟩, Try.underlying3, Try.underlying22, Try.underlying23, Try.underlying2, Try.underlying3, by kernel_rfl, Try.underlying2, by kernel_rfl⟩ (by kernel_rfl) (hval 0 25 v0 rfl rfl) h0
  have k0 := h0
  have lt0 : ∀ x ∈ p0, x.block < W.heap.size := by obtain ⟨m, hm⟩ := k0; exact DataW.trod_lt m _ _ _ hm
  obtain ⟨a1, len1, cap1, rfl⟩ := okWide_slice Try.underlying26 (hval 1 26 v1 rfl rfl)
  have k1 := h1
  have lt1 : ∀ x ∈ p1, x.block < W.heap.size := by obtain ⟨m, hm⟩ := k1; exact DataW.trod_lt m _ _ _ hm
  obtain ⟨z1, w1⟩ : ∃ zs, Go.Proofs.Ytilgmkhcpmegjaa.Tr.DomsIn W a1 len1 cap1 zs := by
    obtain ⟨fuel, hf⟩ := h1
    exact Go.Proofs.Ytilgmkhcpmegjaa.Tr.doms_in Try.underlying26 (by kernel_rfl) Try.underlying43 Try.underlying46 (by kernel_rfl) rfl rfl (by kernel_rfl) (by kernel_rfl) Try.underlying2 Try.underlying2 hf
  clear hA0 hval0
  refine (walk k0k X0 n0 xc0 Y0 m0 yc0 e0 z0 a1 len1 cap1 z1 W w0 w1).mono fun e W' ⟨he, bel⟩ => ?_
  subst he
  exact ⟨_, rfl, _, _, _, [], _, [], hW', trodAll_mk1 (shut_bool Try.underlying4 _), (trodAll_cons_mk (Below.trod laidOut (by kernel_rfl) (of_decide_eq_true (by kernel_rfl)) k0 bel lt0) (trodAll_cons_mk (Below.trod laidOut (by kernel_rfl) (of_decide_eq_true (by kernel_rfl)) k1 bel lt1) trodAll_mk0)), rfl, bel.frame _, fun h => by cases h⟩

theorem over : Rows.logicKeepsRow.holds Try.pinned (OpenSpec.ofChange Rows.logicKeepsSpec) :=
  OpenClaim.holds_of_wide 4 Try.f4 rfl rfl rfl rfl rfl rfl rfl ⟨rfl, rfl, rfl, rfl, rfl⟩ rfl rfl rfl rfl rfl (by kernel_rfl) Try.func4 (by kernel_rfl)
    (of_decide_eq_true (by kernel_rfl)) (by unfold Func.isWrapper; first | (rw [if_pos (by decide +kernel)]; kernel_rfl) | (rw [if_neg (by decide +kernel)]; exact ⟨rfl, rfl⟩))
    (fun os started H enc _ => lifted os started H enc)

/-- THE STATEMENT -/
theorem proved : Rows.LogicKeepsSaid := over
#print axioms proved
end Go.Proofs.Ytilgmkhcpmegjaa.logicKeeps
