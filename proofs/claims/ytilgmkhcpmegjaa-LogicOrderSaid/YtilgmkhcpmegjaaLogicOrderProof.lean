/-
  For all constraints and domains: the law LogicOrder returns true (smaller domains lead to smaller ones). No condition.
-/
import Derived.Test.YtilgmkhcpmegjaaRows
import Derived.WalkKit
import Derived.ProofKit
import Derived.OpenShut
import Derived.ShutString
import Derived.ChangeOld
import Derived.Below
import Derived.Test.YtilgmkhcpmegjaaCo
import Derived.Test.YtilgmkhcpmegjaaLu
import Derived.Test.YtilgmkhcpmegjaaQbp
namespace Go.Proofs.Ytilgmkhcpmegjaa.logicOrder
open Go.ChangeShapes Go.WideShapes Go.ChangeAt Go.RowKit
open Go.ChangeMaps (open_string shut_string)
open Go.Proofs.Ytilgmkhcpmegjaa.Dig Go.Proofs.Ytilgmkhcpmegjaa.Zs Go.Proofs.Ytilgmkhcpmegjaa.Tr Go.Proofs.Ytilgmkhcpmegjaa.Sn Go.Proofs.Ytilgmkhcpmegjaa.Ln Go.Proofs.Ytilgmkhcpmegjaa.At Go.Proofs.Ytilgmkhcpmegjaa.Lgc
open Go.Proofs.Ytilgmkhcpmegjaa.Ti (Sl QR stR elR)
set_option linter.unusedVariables false

theorem own : ownKnob Try.prog.godebug = none := by kernel_rfl
theorem laidOut : laidOutB Try.prog = true := by kernel_rfl

/-- WHAT THE WALK IS TOLD OF A SLICE OF INTEGERS THAT CAME IN: it is nil; or it leads to a row of 'cap' cells, the numbers 'zs' (the first 'len' are its elements, the rest its spare room), each fitting its kind. -/
def IsRow (k : IntKind) (w : World) (a : Option Addr) (len cap : Nat) (zs : List Int) : Prop :=
  (a = none ∧ len = 0 ∧ cap = 0 ∧ zs = []) ∨
  ∃ x, a = some x ∧ len ≤ cap ∧ cap ≤ maxLen ∧ zs.length = cap ∧ (∀ i, i < zs.length → w.cell? (x.add i) = some (.int k (zs.getD i 0))) ∧ ∀ n ∈ zs, (Lit.int k n).wf = true

set_option maxRecDepth 100000 in
set_option maxHeartbeats 3000000 in
theorem walk (k0k : Int) (X0 : Option Addr) (n0 xc0 : Nat) (Y0 : Option Addr) (m0 yc0 : Nat) (e0 : Int) (z0 : Go.Proofs.Ytilgmkhcpmegjaa.Sn.Cn) (a1 : Option Addr) (len1 cap1 : Nat) (z1 : Go.Proofs.Ytilgmkhcpmegjaa.Tr.Ds) (a2 : Option Addr) (len2 cap2 : Nat) (z2 : Go.Proofs.Ytilgmkhcpmegjaa.Tr.Ds) (w : World) (w0 : Go.Proofs.Ytilgmkhcpmegjaa.Sn.ConIn w k0k X0 n0 xc0 Y0 m0 yc0 e0 z0) (w1 : Go.Proofs.Ytilgmkhcpmegjaa.Tr.DomsIn w a1 len1 cap1 z1) (w2 : Go.Proofs.Ytilgmkhcpmegjaa.Tr.DomsIn w a2 len2 cap2 z2) :
    Calls Try.prog 5 #[.agg #[.int .i64 k0k, .slice X0 n0 xc0, .slice Y0 m0 yc0, .int .i64 e0], .slice a1 len1 cap1, .slice a2 len2 cap2] w fun e w' => e = .returned (.bool true) ∧ Since w w' := by
  obtain ⟨hC, hBC, hcx, hca⟩ := w0
  obtain ⟨hl1, hD, hB1, hL1⟩ := w1
  obtain ⟨hl2, hD2, hB2, hL2⟩ := w2
  subst hl1 hl2
  have AL := Lib.hid (fun W => Go.Proofs.Ytilgmkhcpmegjaa.Lgc.alive15_any W)
  have hbd : ∀ d ∈ z1, Bd d := fun d hd => (hB1 d hd).1
  have MI := Lib.hid (fun W (k : Since w W) => mine_any _ _ z0 z1 W (hC.since k) (hD.since stD k) hL1 (fun d hd => (hB1 d hd).2) hcx hca hbd)
  have S0 := Lib.hid (since_alloc w (.cells #[.int .i64 k0k, .slice X0 n0 xc0, .slice Y0 m0 yc0, .int .i64 e0] 25))
  have B0 := Lib.hid (Bx.fresh w #[.int .i64 k0k, .slice X0 n0 xc0, .slice Y0 m0 yc0, .int .i64 e0] 25)
  obtain ⟨f, hf⟩ : ∃ f, mineB z0 z1 = f := ⟨_, rfl⟩
  rw [hf] at MI
  cases f with
  | false =>
    clear hf hC hD hB1 hL1 hBC hcx hca hD2 hB2 hL2 hbd
    obtain ⟨b0, b1, b2, b3⟩ := bx4 B0.out
    go_enter Try.func5, Try.ntmps5
    go_wp2_with (first | (go_at_call 15; (with_reducible refine (AL.out _).mono ?_); rintro e w1 ⟨rfl, k1⟩; have U1 := Lib.hid k1; have T1 := Lib.hid (S0.out.trans k1); obtain ⟨b0, b1, b2, b3⟩ := bx4 (B0.out.since k1); clear k1) | (go_at_call 21; (with_reducible refine (MI.out _ T1.out).mono ?_); rintro e w2 ⟨rfl, k2⟩; have U2 := Lib.hid (U1.out.trans k2); have T2 := Lib.hid (T1.out.trans k2); obtain ⟨b0, b1, b2, b3⟩ := bx4 (B0.out.since U2.out); clear k2))
    go_ret
    exact ⟨rfl, T2.out⟩
  | true =>
  obtain ⟨hk, hsz, h100, hm⟩ := mine_parts hf
  clear hf
  by_cases hln : z2.length = z1.length
  case neg =>
    clear hC hD hB1 hL1 hBC hcx hca hD2 hB2 hL2 hsz h100 hbd hm hk
    have hne : ¬ (z2.length : Int) = (z1.length : Int) := by omega
    obtain ⟨b0, b1, b2, b3⟩ := bx4 B0.out
    go_enter Try.func5, Try.ntmps5
    go_wp2_with (first | (go_at_call 15; (with_reducible refine (AL.out _).mono ?_); rintro e w1 ⟨rfl, k1⟩; have U1 := Lib.hid k1; have T1 := Lib.hid (S0.out.trans k1); obtain ⟨b0, b1, b2, b3⟩ := bx4 (B0.out.since k1); clear k1) | (go_at_call 21; (with_reducible refine (MI.out _ T1.out).mono ?_); rintro e w2 ⟨rfl, k2⟩; have U2 := Lib.hid (U1.out.trans k2); have T2 := Lib.hid (T1.out.trans k2); obtain ⟨b0, b1, b2, b3⟩ := bx4 (B0.out.since U2.out); clear k2))
    go_ret
    exact ⟨rfl, T2.out⟩
  obtain ⟨m1, m2, m3⟩ := mod_parts hm
  obtain ⟨s1, s2⟩ := sml_ok (C := z2) m1 hln
  have hm' := sml_lk hm hk hln
  have SM := Lib.hid (fun W (k : Since w W) => smaller_any _ _ z1 z2 W (hD.since stD k) (hD2.since stD k) hln h100 m1 (fun c hc => ⟨(hB2 c hc).1, by have := (hB2 c hc).2; unfold maxLen at this; omega⟩))
  have NA := Lib.hid (fun W (k : Since w W) => logic_any _ _ z0 z1 W (hC.since k) (hD.since stD k) hsz)
  have NB := Lib.hid (fun W v (k : Since w W) (hv : Sl 1 QD W v (sml z1 z2)) => logic_any _ v z0 (sml z1 z2) W (hC.since k) hv ⟨fun d hd => right_len (s1 d hd).1, hsz.2⟩)
  have MO := Lib.hid (fun E' (he : logL z0.k z0.x z0.a (sml z1 z2) = some E') => (log_ok m3 hk).mo z1 (sml z1 z2) E' m1 s1 rfl s2 he)
  have G1 := Lib.hid (fun E (he : logL z0.k z0.x z0.a z1 = some E) => And.intro ((log_ok m3 hk).ok _ _ m1 rfl he).1 ((log_ok m3 hk).ok _ _ m1 rfl he).2.1)
  have G2 := Lib.hid (fun E (he : logL z0.k z0.x z0.a (sml z1 z2) = some E) => And.intro ((log_ok m3 hk).ok _ _ s1 s2.1 he).1 ((log_ok m3 hk).ok _ _ s1 s2.1 he).2.1)
  rw [logO_is hm hk rfl] at NA
  rw [logO_is hm' hk rfl] at NB
  have HL1 := Lib.hid h100
  generalize logL z0.k z0.x z0.a z1 = R at *
  generalize logL z0.k z0.x z0.a (sml z1 z2) = R' at *
  rw [hln] at SM
  unfold RetD at SM
  unfold RetNr at NA NB
  clear hC hD hB1 hL1 hBC hcx hca hD2 hB2 hL2 hsz h100 hbd hm hm' hk m1 m2 m3 s1 s2
  rw [hln]
  cases R' with
  | none =>
    cases R with
    | none =>
      simp only [Option.isSome_none, Bool.false_eq_true, if_false] at NA NB
      obtain ⟨b0, b1, b2, b3⟩ := bx4 B0.out
      go_enter Try.func5, Try.ntmps5
      go_wp2_with (first | (go_at_call 15; (with_reducible refine (AL.out _).mono ?_); rintro e w1 ⟨rfl, k1⟩; have U1 := Lib.hid k1; have T1 := Lib.hid (S0.out.trans k1); obtain ⟨b0, b1, b2, b3⟩ := bx4 (B0.out.since k1); clear k1) | (go_at_call 21; (with_reducible refine (MI.out _ T1.out).mono ?_); rintro e w2 ⟨rfl, k2⟩; have U2 := Lib.hid (U1.out.trans k2); have T2 := Lib.hid (T1.out.trans k2); obtain ⟨b0, b1, b2, b3⟩ := bx4 (B0.out.since U2.out); clear k2) | (go_at_call 23; (with_reducible refine (SM.out _ T2.out).mono ?_); rintro e w4 ⟨A4, n4, c4, rfl, hn4, h4, k4⟩; have U4 := Lib.hid (U2.out.trans k4); have T4 := Lib.hid (T2.out.trans k4); have H4 := Lib.hid h4; obtain ⟨b0, b1, b2, b3⟩ := bx4 (B0.out.since U4.out); clear k4 h4 hn4) | (go_at_call 17; (with_reducible refine (NB.out _ _ T5.out H5.out).mono ?_); rintro e w6 ⟨k6, rfl⟩; have T6 := Lib.hid (T5.out.trans k6); clear k6) | (go_at_call 17; (with_reducible refine (NA.out _ T4.out).mono ?_); rintro e w5 ⟨k5, rfl⟩; have U5 := Lib.hid (U4.out.trans k5); have T5 := Lib.hid (T4.out.trans k5); have H5 := Lib.hid (H4.out.since stD k5); obtain ⟨b0, b1, b2, b3⟩ := bx4 (B0.out.since U5.out); clear k5))
      go_ret
      exact ⟨by simp, T6.out⟩
    | some E =>
      simp only [Option.isSome_none, Option.isSome_some, if_true, Bool.false_eq_true, if_false] at NA NB
      obtain ⟨b0, b1, b2, b3⟩ := bx4 B0.out
      go_enter Try.func5, Try.ntmps5
      go_wp2_with (first | (go_at_call 15; (with_reducible refine (AL.out _).mono ?_); rintro e w1 ⟨rfl, k1⟩; have U1 := Lib.hid k1; have T1 := Lib.hid (S0.out.trans k1); obtain ⟨b0, b1, b2, b3⟩ := bx4 (B0.out.since k1); clear k1) | (go_at_call 21; (with_reducible refine (MI.out _ T1.out).mono ?_); rintro e w2 ⟨rfl, k2⟩; have U2 := Lib.hid (U1.out.trans k2); have T2 := Lib.hid (T1.out.trans k2); obtain ⟨b0, b1, b2, b3⟩ := bx4 (B0.out.since U2.out); clear k2) | (go_at_call 23; (with_reducible refine (SM.out _ T2.out).mono ?_); rintro e w4 ⟨A4, n4, c4, rfl, hn4, h4, k4⟩; have U4 := Lib.hid (U2.out.trans k4); have T4 := Lib.hid (T2.out.trans k4); have H4 := Lib.hid h4; obtain ⟨b0, b1, b2, b3⟩ := bx4 (B0.out.since U4.out); clear k4 h4 hn4) | (go_at_call 17; (with_reducible refine (NB.out _ _ T5.out H5.out).mono ?_); rintro e w6 ⟨k6, rfl⟩; have T6 := Lib.hid (T5.out.trans k6); clear k6) | (go_at_call 17; (with_reducible refine (NA.out _ T4.out).mono ?_); rintro e w5 ⟨k5, g5, n5, rfl, hg5, hg5', hD5⟩; have U5 := Lib.hid (U4.out.trans k5); have T5 := Lib.hid (T4.out.trans k5); have H5 := Lib.hid (H4.out.since stD k5); have E5 := Lib.hid hD5.sl; clear hg5 hg5' hD5; obtain ⟨b0, b1, b2, b3⟩ := bx4 (B0.out.since U5.out); clear k5))
      go_ret
      exact ⟨by simp, T6.out⟩
  | some E' =>
    obtain ⟨E, hE, hES⟩ := MO.out E' rfl
    subst hE
    have g1 := G1.out E rfl
    have g2 := G2.out E' rfl
    have UN := Lib.hid (fun W v1 v2 (h1 : Sl 1 QD W v1 E') (h2 : Sl 1 QD W v2 E) => under_yes v1 v2 E' E W h1 h2 hES (by rw [g1.2.1]; exact HL1.out) g2.1 g1.1)
    clear MO G1 G2 g1 g2 hES
    simp only [Option.isSome_some, if_true] at NA NB
    obtain ⟨b0, b1, b2, b3⟩ := bx4 B0.out
    go_enter Try.func5, Try.ntmps5
    go_wp2_with (first | (go_at_call 15; (with_reducible refine (AL.out _).mono ?_); rintro e w1 ⟨rfl, k1⟩; have U1 := Lib.hid k1; have T1 := Lib.hid (S0.out.trans k1); obtain ⟨b0, b1, b2, b3⟩ := bx4 (B0.out.since k1); clear k1) | (go_at_call 21; (with_reducible refine (MI.out _ T1.out).mono ?_); rintro e w2 ⟨rfl, k2⟩; have U2 := Lib.hid (U1.out.trans k2); have T2 := Lib.hid (T1.out.trans k2); obtain ⟨b0, b1, b2, b3⟩ := bx4 (B0.out.since U2.out); clear k2) | (go_at_call 23; (with_reducible refine (SM.out _ T2.out).mono ?_); rintro e w4 ⟨A4, n4, c4, rfl, hn4, h4, k4⟩; have U4 := Lib.hid (U2.out.trans k4); have T4 := Lib.hid (T2.out.trans k4); have H4 := Lib.hid h4; obtain ⟨b0, b1, b2, b3⟩ := bx4 (B0.out.since U4.out); clear k4 h4 hn4) | (go_at_call 17; (with_reducible refine (NB.out _ _ T5.out H5.out).mono ?_); rintro e w6 ⟨k6, g6, n6, rfl, hg6, hg6', hD6⟩; have T6 := Lib.hid (T5.out.trans k6); have D6 := Lib.hid hD6.sl; have D5 := Lib.hid (E5.out.since stD k6); clear hg6 hg6' hD6; clear k6) | (go_at_call 17; (with_reducible refine (NA.out _ T4.out).mono ?_); rintro e w5 ⟨k5, g5, n5, rfl, hg5, hg5', hD5⟩; have U5 := Lib.hid (U4.out.trans k5); have T5 := Lib.hid (T4.out.trans k5); have H5 := Lib.hid (H4.out.since stD k5); have E5 := Lib.hid hD5.sl; clear hg5 hg5' hD5; obtain ⟨b0, b1, b2, b3⟩ := bx4 (B0.out.since U5.out); clear k5) | (go_at_call 24; (with_reducible refine (UN.out _ _ _ D6.out D5.out).mono ?_); rintro e w7 ⟨rfl, k7⟩; have T7 := Lib.hid (T6.out.trans k7); clear k7))
    go_ret
    exact ⟨by simp, T7.out⟩

set_option maxRecDepth 100000 in
theorem lifted (os : Os) (started : os.Started) (H : Type) (enc : TypeId × Value → H) :
    ReturnsInHanded {} Try.checked os 5 .any (Rows.logicOrderSpec.pre6 enc Try.prog Try.f5 Rows.logicOrderRow.domain false) (Rows.logicOrderSpec.post enc Try.prog Try.f5 false true false false) := by
  refine returnsInHanded_of_change (C := Try.checked) own started (by kernel_rfl) Try.func5
    (ChangeSpec.witness6 (enc := enc) (C := Try.checked) false ⟨#[], #[.agg #[.int .i64 0, .slice none 0 0, .slice none 0 0, .int .i64 0], .slice none 0 0, .slice none 0 0], []⟩ 8 (by kernel_rfl) (by kernel_rfl) (by kernel_rfl) (by kernel_rfl)) ?_
  intro W base args ds gs before hval0 hW hcnd _
  have hval : ∀ (j : Nat) t v, Try.f5.params[j]? = some t → args[j]? = some v → Value.okWide Try.prog W .any base t v := hval0
  have hW' := hW
  obtain ⟨p, q, hA0, hV, rfl, hfz, hnd⟩ := hW
  have hA : DataW.TrodAll enc Try.prog W 0 (fun _ => true) true Try.f5.params.toList args.toList ds p := hA0
  rw [Try.params5] at hA hval
  obtain ⟨v0, vs0, d0, ds0, p0, q0, hargs, rfl, rfl, h0, r0⟩ := trodAll_cons hA
  obtain ⟨v1, vs1, d1, ds1, p1, q1, rfl, rfl, rfl, h1, r1⟩ := trodAll_cons r0
  obtain ⟨v2, vs2, d2, ds2, p2, q2, rfl, rfl, rfl, h2, r2⟩ := trodAll_cons r1
  obtain ⟨rfl, rfl, rfl⟩ := trodAll_nil r2
  obtain rfl : args = #[v0, v1, v2] := by cases args; simp_all
  obtain ⟨rfl, rfl⟩ := trodVars_none hV
  obtain ⟨k0k, X0, n0, xc0, Y0, m0, yc0, e0, rfl, z0, w0⟩ := Go.Proofs.Ytilgmkhcpmegjaa.Sn.con_in ⟨Try.underlying25, ⟨rfl, rfl, rfl, rfl⟩, ⟨by kernel_rfl, by kernel_rfl, by kernel_rfl, by kernel_rfl⟩, Try.underlying3, Try.underlying22, Try.underlying23, Try.underlying2, Try.underlying3, by kernel_rfl, Try.underlying2, by kernel_rfl⟩ (by kernel_rfl) (hval 0 25 v0 rfl rfl) h0
  have k0 := h0
  have lt0 : ∀ x ∈ p0, x.block < W.heap.size := by obtain ⟨m, hm⟩ := k0; exact DataW.trod_lt m _ _ _ hm
  obtain ⟨a1, len1, cap1, rfl⟩ := okWide_slice Try.underlying26 (hval 1 26 v1 rfl rfl)
  have k1 := h1
  have lt1 : ∀ x ∈ p1, x.block < W.heap.size := by obtain ⟨m, hm⟩ := k1; exact DataW.trod_lt m _ _ _ hm
  obtain ⟨z1, w1⟩ : ∃ zs, Go.Proofs.Ytilgmkhcpmegjaa.Tr.DomsIn W a1 len1 cap1 zs := by
    obtain ⟨fuel, hf⟩ := h1
    exact Go.Proofs.Ytilgmkhcpmegjaa.Tr.doms_in Try.underlying26 (by kernel_rfl) Try.underlying43 Try.underlying46 (by kernel_rfl) rfl rfl (by kernel_rfl) (by kernel_rfl) Try.underlying2 Try.underlying2 hf
  obtain ⟨a2, len2, cap2, rfl⟩ := okWide_slice Try.underlying26 (hval 2 26 v2 rfl rfl)
  have k2 := h2
  have lt2 : ∀ x ∈ p2, x.block < W.heap.size := by obtain ⟨m, hm⟩ := k2; exact DataW.trod_lt m _ _ _ hm
  obtain ⟨z2, w2⟩ : ∃ zs, Go.Proofs.Ytilgmkhcpmegjaa.Tr.DomsIn W a2 len2 cap2 zs := by
    obtain ⟨fuel, hf⟩ := h2
    exact Go.Proofs.Ytilgmkhcpmegjaa.Tr.doms_in Try.underlying26 (by kernel_rfl) Try.underlying43 Try.underlying46 (by kernel_rfl) rfl rfl (by kernel_rfl) (by kernel_rfl) Try.underlying2 Try.underlying2 hf
  clear hA0 hval0
  refine (walk k0k X0 n0 xc0 Y0 m0 yc0 e0 z0 a1 len1 cap1 z1 a2 len2 cap2 z2 W w0 w1 w2).mono fun e W' ⟨he, bel⟩ => ?_
  subst he
  exact ⟨_, rfl, _, _, _, [], _, [], hW', trodAll_mk1 (shut_bool Try.underlying4 _), (trodAll_cons_mk (Below.trod laidOut (by kernel_rfl) (of_decide_eq_true (by kernel_rfl)) k0 bel lt0) (trodAll_cons_mk (Below.trod laidOut (by kernel_rfl) (of_decide_eq_true (by kernel_rfl)) k1 bel lt1) (trodAll_cons_mk (Below.trod laidOut (by kernel_rfl) (of_decide_eq_true (by kernel_rfl)) k2 bel lt2) trodAll_mk0))), rfl, bel.frame _, fun h => by cases h⟩

theorem over : Rows.logicOrderRow.holds Try.pinned (OpenSpec.ofChange Rows.logicOrderSpec) :=
  OpenClaim.holds_of_wide 5 Try.f5 rfl rfl rfl rfl rfl rfl rfl ⟨rfl, rfl, rfl, rfl, rfl⟩ rfl rfl rfl rfl rfl (by kernel_rfl) Try.func5 (by kernel_rfl)
    (of_decide_eq_true (by kernel_rfl)) (by unfold Func.isWrapper; first | (rw [if_pos (by decide +kernel)]; kernel_rfl) | (rw [if_neg (by decide +kernel)]; exact ⟨rfl, rfl⟩))
    (fun os started H enc _ => lifted os started H enc)

/-- THE STATEMENT -/
theorem proved : Rows.LogicOrderSaid := over
#print axioms proved
end Go.Proofs.Ytilgmkhcpmegjaa.logicOrder
