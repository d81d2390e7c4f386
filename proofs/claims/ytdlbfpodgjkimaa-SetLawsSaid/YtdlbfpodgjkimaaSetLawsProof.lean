/-
  For all ranges a, b and c: the law SetLaws returns true (what sets have together hangs on no order; sets of the same values are the same lists). No condition.
-/
import Derived.Test.YtdlbfpodgjkimaaRows
import Derived.WalkKit
import Derived.ProofKit
import Derived.OpenShut
import Derived.ShutString
import Derived.ChangeOld
import Derived.Below
import Derived.Test.YtdlbfpodgjkimaaEy
import Derived.Test.YtdlbfpodgjkimaaEp
namespace Go.Proofs.Ytdlbfpodgjkimaa.setLaws
open Go.ChangeShapes Go.WideShapes Go.ChangeAt Go.RowKit
open Go.ChangeMaps (open_string shut_string)
open Go.Proofs.Ytdlbfpodgjkimaa.Dig Go.Proofs.Ytdlbfpodgjkimaa.Zs
open Go.Proofs.Ytdlbfpodgjkimaa.Ti (Sl QR stR)
set_option linter.unusedVariables false

theorem own : ownKnob Try.prog.godebug = none := by kernel_rfl
theorem laidOut : laidOutB Try.prog = true := by kernel_rfl

/-- WHAT THE WALK IS TOLD OF A SLICE OF INTEGERS THAT CAME IN: it is nil; or it leads to a row of 'cap' cells, the numbers 'zs' (the first 'len' are its elements, the rest its spare room), each fitting its kind. -/
def IsRow (k : IntKind) (w : World) (a : Option Addr) (len cap : Nat) (zs : List Int) : Prop :=
  (a = none ∧ len = 0 ∧ cap = 0 ∧ zs = []) ∨
  ∃ x, a = some x ∧ len ≤ cap ∧ cap ≤ maxLen ∧ zs.length = cap ∧ (∀ i, i < zs.length → w.cell? (x.add i) = some (.int k (zs.getD i 0))) ∧ ∀ n ∈ zs, (Lit.int k n).wf = true

set_option maxHeartbeats 4000000 in
theorem walk (a0 : Option Addr) (len0 cap0 : Nat) (z0 : List Go.Proofs.Ytdlbfpodgjkimaa.Zs.Rn) (a1 : Option Addr) (len1 cap1 : Nat) (z1 : List Go.Proofs.Ytdlbfpodgjkimaa.Zs.Rn) (a2 : Option Addr) (len2 cap2 : Nat) (z2 : List Go.Proofs.Ytdlbfpodgjkimaa.Zs.Rn) (w : World) (w0 : Go.Proofs.Ytdlbfpodgjkimaa.Zs.RangesIn w a0 len0 cap0 z0) (w1 : Go.Proofs.Ytdlbfpodgjkimaa.Zs.RangesIn w a1 len1 cap1 z1) (w2 : Go.Proofs.Ytdlbfpodgjkimaa.Zs.RangesIn w a2 len2 cap2 z2) :
    Calls Try.prog 7 #[.slice a0 len0 cap0, .slice a1 len1 cap1, .slice a2 len2 cap2] w fun e w' => e = .returned (.bool true) ∧ Since w w' := by
  obtain ⟨hn0, hS0, hB0, -⟩ := w0
  obtain ⟨hn1, hS1, hB1, -⟩ := w1
  obtain ⟨hn2, hS2, hB2, -⟩ := w2
  subst hn0 hn1 hn2
  have AL := Lib.hid (alive_any w)
  by_cases b0 : z0.length > 300
  · clear hS0 hB0 hS1 hB1 hS2 hB2
    go_enter Try.func7, Try.ntmps7
    go_wp2_with (first
      | (go_at_call 10; (with_reducible refine (AL.out).mono ?_); rintro e w1 ⟨rfl, k1⟩; have K1 := k1))
    go_ret
    exact ⟨rfl, K1⟩
  by_cases b1 : z1.length > 300
  · clear hS0 hB0 hS1 hB1 hS2 hB2
    go_enter Try.func7, Try.ntmps7
    go_wp2_with (first
      | (go_at_call 10; (with_reducible refine (AL.out).mono ?_); rintro e w1 ⟨rfl, k1⟩; have K1 := k1))
    go_ret
    exact ⟨rfl, K1⟩
  by_cases b2 : z2.length > 300
  · clear hS0 hB0 hS1 hB1 hS2 hB2
    go_enter Try.func7, Try.ntmps7
    go_wp2_with (first
      | (go_at_call 10; (with_reducible refine (AL.out).mono ?_); rintro e w1 ⟨rfl, k1⟩; have K1 := k1))
    go_ret
    exact ⟨rfl, K1⟩
  cases r0 : right z0 with
  | false =>
    have R0 := Lib.hid (fun W k => right_at hS0 (by omega) hB0 r0 W k)
    clear hS0 hB0 hS1 hB1 hS2 hB2
    go_enter Try.func7, Try.ntmps7
    go_wp2_with (first
      | (go_at_call 10; (with_reducible refine (AL.out).mono ?_); rintro e w1 ⟨rfl, k1⟩; have K1 := k1)
      | (go_at_call 14; (with_reducible refine (R0.out _ K1).mono ?_); rintro e w2 ⟨rfl, k2⟩; have K2 := K1.trans k2))
    go_ret
    exact ⟨rfl, K2⟩
  | true =>
    have R0 := Lib.hid (fun W k => right_at hS0 (by omega) hB0 r0 W k)
    cases r1 : right z1 with
    | false =>
      have R1 := Lib.hid (fun W k => right_at hS1 (by omega) hB1 r1 W k)
      clear hS0 hB0 hS1 hB1 hS2 hB2
      go_enter Try.func7, Try.ntmps7
      go_wp2_with (first
        | (go_at_call 10; (with_reducible refine (AL.out).mono ?_); rintro e w1 ⟨rfl, k1⟩; have K1 := k1)
        | (go_at_call 14; (with_reducible refine (R0.out _ K1).mono ?_); rintro e w2 ⟨rfl, k2⟩; have K2 := K1.trans k2)
        | (go_at_call 14; (with_reducible refine (R1.out _ K2).mono ?_); rintro e w3 ⟨rfl, k3⟩; have K3 := K2.trans k3))
      go_ret
      exact ⟨rfl, K3⟩
    | true =>
      have R1 := Lib.hid (fun W k => right_at hS1 (by omega) hB1 r1 W k)
      cases r2 : right z2 with
      | false =>
        have R2 := Lib.hid (fun W k => right_at hS2 (by omega) hB2 r2 W k)
        clear hS0 hB0 hS1 hB1 hS2 hB2
        go_enter Try.func7, Try.ntmps7
        go_wp2_with (first
          | (go_at_call 10; (with_reducible refine (AL.out).mono ?_); rintro e w1 ⟨rfl, k1⟩; have K1 := k1)
          | (go_at_call 14; (with_reducible refine (R0.out _ K1).mono ?_); rintro e w2 ⟨rfl, k2⟩; have K2 := K1.trans k2)
          | (go_at_call 14; (with_reducible refine (R1.out _ K2).mono ?_); rintro e w3 ⟨rfl, k3⟩; have K3 := K2.trans k3)
          | (go_at_call 14; (with_reducible refine (R2.out _ K3).mono ?_); rintro e w4 ⟨rfl, k4⟩; have K4 := K3.trans k4))
        go_ret
        exact ⟨rfl, K4⟩
      | true =>
        have R2 := Lib.hid (fun W k => right_at hS2 (by omega) hB2 r2 W k)
        obtain ⟨X, hX⟩ : ∃ X, meet z0 z1 = X := ⟨_, rfl⟩
        obtain ⟨V, hV⟩ : ∃ X, meet z1 z2 = X := ⟨_, rfl⟩
        obtain ⟨Y, hY⟩ : ∃ Y, meet X z2 = Y := ⟨_, rfl⟩
        have hXr : right X = true := hX ▸ meet_right z0 z1
        have hVr : right V = true := hV ▸ meet_right z1 z2
        have hXl : X.length ≤ 600 := by have := @meet_len z0 z1; rw [hX] at this; omega
        have hVl : V.length ≤ 600 := by have := @meet_len z1 z2; rw [hV] at this; omega
        have hYl : Y.length ≤ 900 := by have := @meet_len X z2; rw [hY] at this; omega
        have hY2 : meet z0 V = Y := by rw [← hV, ← hY, ← hX]; exact (meet_assoc z0 z1 z2 r0 r1 r2).symm
        have M01 := Lib.hid (fun W (k : Since w W) => hX ▸ meet_any _ _ z0 z1 W (hS0.since stR k) (hS1.since stR k) (by omega) (by omega) hB0 hB1)
        have M10 := Lib.hid (fun W (k : Since w W) => (meet_comm z1 z0 r1 r0).trans hX ▸ meet_any _ _ z1 z0 W (hS1.since stR k) (hS0.since stR k) (by omega) (by omega) hB1 hB0)
        have M12 := Lib.hid (fun W (k : Since w W) => hV ▸ meet_any _ _ z1 z2 W (hS1.since stR k) (hS2.since stR k) (by omega) (by omega) hB1 hB2)
        have M00 := Lib.hid (fun W (k : Since w W) => meet_self z0 r0 ▸ meet_any _ _ z0 z0 W (hS0.since stR k) (hS0.since stR k) (by omega) (by omega) hB0 hB0)
        have MX2 := Lib.hid (fun (v : Value) (W : World) (h : Sl 2 QR W v X) (k : Since w W) => hY ▸ meet_any v _ X z2 W h (hS2.since stR k) (by omega) (by omega) (okF_bd hXr (Int.le_refl _)) hB2)
        have M0V := Lib.hid (fun (v : Value) (W : World) (h : Sl 2 QR W v V) (k : Since w W) => hY2 ▸ meet_any _ v z0 V W (hS0.since stR k) h (by omega) (by omega) hB0 (okF_bd hVr (Int.le_refl _)))
        have SA := Lib.hid (fun W (k : Since w W) => show Calls Try.prog 30 _ W (RetT true W) from (show same z0 z0 = true by simp [same, r0]) ▸ same_any _ _ z0 z0 W (hS0.since stR k) (hS0.since stR k) (by omega) (by omega) hB0)
        have OF := Lib.hid (fun (v : Value) (W : World) (h : Sl 2 QR W v (z0 ++ z0)) => of_yes h (by rw [List.length_append]; omega) (of_twice r0) W (Since.refl _))
        have S0 := Lib.hid (fun W (k : Since w W) => hS0.since stR k)
        clear hS0 hB0 hS1 hB1 hS2 hB2 hX hV hY hXr hVr hY2 r0 r1 r2
        go_enter Try.func7, Try.ntmps7
        go_wp2_with (first
          | (go_at_call 10; (with_reducible refine (AL.out).mono ?_); rintro e w1 ⟨rfl, k1⟩; have K1 := k1)
          | (go_at_call 14; (with_reducible refine (R0.out _ K1).mono ?_); rintro e w2 ⟨rfl, k2⟩; have K2 := K1.trans k2)
          | (go_at_call 14; (with_reducible refine (R1.out _ K2).mono ?_); rintro e w3 ⟨rfl, k3⟩; have K3 := K2.trans k3)
          | (go_at_call 14; (with_reducible refine (R2.out _ K3).mono ?_); rintro e w4 ⟨rfl, k4⟩; have K4 := K3.trans k4)
          | (at_builtin; refine wpList_appIn (Rw.nil (Since.refl w4)) (Nat.zero_le _) (S0.out _ K4) (by omega) (by rfl) _ _ rfl rfl rfl ?_; intro A5 c5 w5 g5 _; simp only [List.length_nil, Nat.zero_add, List.nil_append] at g5; have K5 := K4.trans g5.2)
          | (at_builtin; refine wpList_appIn g5 (by omega) (S0.out _ K5) (by omega) (by rfl) _ _ rfl rfl rfl ?_; intro A6 c6 w6 g6 _; have K6 := K4.trans g6.2)
          | (go_at_call 11; (with_reducible refine (OF.out _ _ g6.sl).mono ?_); rintro e w7 ⟨A7, m7, c7, rfl, -, h7, k7⟩; have K7 := K6.trans k7)
          | (go_at_call 28; (with_reducible refine (M01.out _ K7).mono ?_); rintro e w8 ⟨A8, m8, c8, rfl, -, h8, k8⟩; have K8 := K7.trans k8)
          | (go_at_call 28; (with_reducible refine (M10.out _ K8).mono ?_); rintro e w9 ⟨A9, m9, c9, rfl, -, h9, k9⟩; have K9 := K8.trans k9)
          | (go_at_call 13; (with_reducible refine (ranges_yes (h8.since stR (k9)) h9 (by omega)).mono ?_); rintro e w10 ⟨rfl, k10⟩; have K10 := K9.trans k10)
          | (go_at_call 28; (with_reducible refine (M01.out _ K10).mono ?_); rintro e w11 ⟨A11, m11, c11, rfl, -, h11, k11⟩; have K11 := K10.trans k11)
          | (go_at_call 28; (with_reducible refine (MX2.out _ _ h11 K11).mono ?_); rintro e w12 ⟨A12, m12, c12, rfl, -, h12, k12⟩; have K12 := K11.trans k12)
          | (go_at_call 28; (with_reducible refine (M12.out _ K12).mono ?_); rintro e w13 ⟨A13, m13, c13, rfl, -, h13, k13⟩; have K13 := K12.trans k13)
          | (go_at_call 28; (with_reducible refine (M0V.out _ _ h13 K13).mono ?_); rintro e w14 ⟨A14, m14, c14, rfl, -, h14, k14⟩; have K14 := K13.trans k14)
          | (go_at_call 13; (with_reducible refine (ranges_yes (h12.since stR (k13.trans k14)) h14 (by omega)).mono ?_); rintro e w15 ⟨rfl, k15⟩; have K15 := K14.trans k15)
          | (go_at_call 28; (with_reducible refine (M00.out _ K15).mono ?_); rintro e w16 ⟨A16, m16, c16, rfl, -, h16, k16⟩; have K16 := K15.trans k16)
          | (go_at_call 13; (with_reducible refine (ranges_yes h16 (S0.out _ K16) (by omega)).mono ?_); rintro e w17 ⟨rfl, k17⟩; have K17 := K16.trans k17)
          | (go_at_call 13; (with_reducible refine (ranges_yes (h7.since stR (((((((((k8.trans k9).trans k10).trans k11).trans k12).trans k13).trans k14).trans k15).trans k16).trans k17)) (S0.out _ K17) (by omega)).mono ?_); rintro e w18 ⟨rfl, k18⟩; have K18 := K17.trans k18)
          | (go_at_call 30; (with_reducible refine (SA.out _ K18).mono ?_); rintro e w19 ⟨rfl, k19⟩; have K19 := K18.trans k19))
        go_ret
        exact ⟨by simp, K19⟩

set_option maxRecDepth 100000 in
theorem lifted (os : Os) (started : os.Started) (H : Type) (enc : TypeId × Value → H) :
    ReturnsInHanded {} Try.checked os 7 .any (Rows.setLawsSpec.pre6 enc Try.prog Try.f7 Rows.setLawsRow.domain false) (Rows.setLawsSpec.post enc Try.prog Try.f7 false true false false) := by
  refine returnsInHanded_of_change (C := Try.checked) own started (by kernel_rfl) Try.func7
    (ChangeSpec.witness6 (enc := enc) (C := Try.checked) false ⟨#[], #[.slice none 0 0, .slice none 0 0, .slice none 0 0], []⟩ 8 (by kernel_rfl) (by kernel_rfl) (by kernel_rfl) (by kernel_rfl)) ?_
  intro W base args ds gs before hval0 hW hcnd _
  have hval : ∀ (j : Nat) t v, Try.f7.params[j]? = some t → args[j]? = some v → Value.okWide Try.prog W .any base t v := hval0
  have hW' := hW
  obtain ⟨p, q, hA0, hV, rfl, hfz, hnd⟩ := hW
  have hA : DataW.TrodAll enc Try.prog W 0 (fun _ => true) true Try.f7.params.toList args.toList ds p := hA0
  rw [Try.params7] at hA hval
  obtain ⟨v0, vs0, d0, ds0, p0, q0, hargs, rfl, rfl, h0, r0⟩ := trodAll_cons hA
  obtain ⟨v1, vs1, d1, ds1, p1, q1, rfl, rfl, rfl, h1, r1⟩ := trodAll_cons r0
  obtain ⟨v2, vs2, d2, ds2, p2, q2, rfl, rfl, rfl, h2, r2⟩ := trodAll_cons r1
  obtain ⟨rfl, rfl, rfl⟩ := trodAll_nil r2
  obtain rfl : args = #[v0, v1, v2] := by cases args; simp_all
  obtain ⟨rfl, rfl⟩ := trodVars_none hV
  obtain ⟨a0, len0, cap0, rfl⟩ := okWide_slice Try.underlying22 (hval 0 22 v0 rfl rfl)
  have k0 := h0
  have lt0 : ∀ x ∈ p0, x.block < W.heap.size := by obtain ⟨m, hm⟩ := k0; exact DataW.trod_lt m _ _ _ hm
  obtain ⟨z0, w0⟩ : ∃ zs, Go.Proofs.Ytdlbfpodgjkimaa.Zs.RangesIn W a0 len0 cap0 zs := by
    obtain ⟨fuel, hf⟩ := h0
    exact Go.Proofs.Ytdlbfpodgjkimaa.Zs.ranges_in Try.underlying22 Try.underlying32 (by kernel_rfl) rfl rfl (by kernel_rfl) (by kernel_rfl) Try.underlying2 Try.underlying2 hf
  obtain ⟨a1, len1, cap1, rfl⟩ := okWide_slice Try.underlying22 (hval 1 22 v1 rfl rfl)
  have k1 := h1
  have lt1 : ∀ x ∈ p1, x.block < W.heap.size := by obtain ⟨m, hm⟩ := k1; exact DataW.trod_lt m _ _ _ hm
  obtain ⟨z1, w1⟩ : ∃ zs, Go.Proofs.Ytdlbfpodgjkimaa.Zs.RangesIn W a1 len1 cap1 zs := by
    obtain ⟨fuel, hf⟩ := h1
    exact Go.Proofs.Ytdlbfpodgjkimaa.Zs.ranges_in Try.underlying22 Try.underlying32 (by kernel_rfl) rfl rfl (by kernel_rfl) (by kernel_rfl) Try.underlying2 Try.underlying2 hf
  obtain ⟨a2, len2, cap2, rfl⟩ := okWide_slice Try.underlying22 (hval 2 22 v2 rfl rfl)
  have k2 := h2
  have lt2 : ∀ x ∈ p2, x.block < W.heap.size := by obtain ⟨m, hm⟩ := k2; exact DataW.trod_lt m _ _ _ hm
  obtain ⟨z2, w2⟩ : ∃ zs, Go.Proofs.Ytdlbfpodgjkimaa.Zs.RangesIn W a2 len2 cap2 zs := by
    obtain ⟨fuel, hf⟩ := h2
    exact Go.Proofs.Ytdlbfpodgjkimaa.Zs.ranges_in Try.underlying22 Try.underlying32 (by kernel_rfl) rfl rfl (by kernel_rfl) (by kernel_rfl) Try.underlying2 Try.underlying2 hf
  clear hA0 hval0
  refine (walk a0 len0 cap0 z0 a1 len1 cap1 z1 a2 len2 cap2 z2 W w0 w1 w2).mono fun e W' ⟨he, bel⟩ => ?_
  subst he
  exact ⟨_, rfl, _, _, _, [], _, [], hW', trodAll_mk1 (shut_bool Try.underlying4 _), (trodAll_cons_mk (Below.trod laidOut (by kernel_rfl) (of_decide_eq_true (by kernel_rfl)) k0 bel lt0) (trodAll_cons_mk (Below.trod laidOut (by kernel_rfl) (of_decide_eq_true (by kernel_rfl)) k1 bel lt1) (trodAll_cons_mk (Below.trod laidOut (by kernel_rfl) (of_decide_eq_true (by kernel_rfl)) k2 bel lt2) trodAll_mk0))), rfl, bel.frame _, fun h => by cases h⟩

theorem over : Rows.setLawsRow.holds Try.pinned (OpenSpec.ofChange Rows.setLawsSpec) :=
  OpenClaim.holds_of_wide 7 Try.f7 rfl rfl rfl rfl rfl rfl rfl ⟨rfl, rfl, rfl, rfl, rfl⟩ rfl rfl rfl rfl rfl (by kernel_rfl) Try.func7 (by kernel_rfl)
    (of_decide_eq_true (by kernel_rfl)) (by unfold Func.isWrapper; first | (rw [if_pos (by decide +kernel)]; kernel_rfl) | (rw [if_neg (by decide +kernel)]; exact ⟨rfl, rfl⟩))
    (fun os started H enc _ => lifted os started H enc)

/-- THE STATEMENT -/
theorem proved : Rows.SetLawsSaid := over
#print axioms proved
end Go.Proofs.Ytdlbfpodgjkimaa.setLaws
