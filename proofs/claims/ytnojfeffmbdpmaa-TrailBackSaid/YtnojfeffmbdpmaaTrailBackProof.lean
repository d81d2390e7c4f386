/-
  For all domains and acts: the law TrailBack returns true (whatever was narrowed and pushed behind a Push, as many Pops give back just the domains of that moment). No condition.
-/
import Derived.Test.YtnojfeffmbdpmaaRows
import Derived.WalkKit
import Derived.ProofKit
import Derived.OpenShut
import Derived.ShutString
import Derived.ChangeOld
import Derived.Below
import Derived.Test.YtnojfeffmbdpmaaVt
namespace Go.Proofs.Ytnojfeffmbdpmaa.trailBack
open Go.ChangeShapes Go.WideShapes Go.ChangeAt Go.RowKit
open Go.ChangeMaps (open_string shut_string)
open Go.Proofs.Ytnojfeffmbdpmaa.Dig Go.Proofs.Ytnojfeffmbdpmaa.Zs Go.Proofs.Ytnojfeffmbdpmaa.Tr
open Go.Proofs.Ytnojfeffmbdpmaa.Ti (Sl QR stR)
set_option linter.unusedVariables false

theorem own : ownKnob Try.prog.godebug = none := by kernel_rfl
theorem laidOut : laidOutB Try.prog = true := by kernel_rfl

/-- WHAT THE WALK IS TOLD OF A SLICE OF INTEGERS THAT CAME IN: it is nil; or it leads to a row of 'cap' cells, the numbers 'zs' (the first 'len' are its elements, the rest its spare room), each fitting its kind. -/
def IsRow (k : IntKind) (w : World) (a : Option Addr) (len cap : Nat) (zs : List Int) : Prop :=
  (a = none ∧ len = 0 ∧ cap = 0 ∧ zs = []) ∨
  ∃ x, a = some x ∧ len ≤ cap ∧ cap ≤ maxLen ∧ zs.length = cap ∧ (∀ i, i < zs.length → w.cell? (x.add i) = some (.int k (zs.getD i 0))) ∧ ∀ n ∈ zs, (Lit.int k n).wf = true

set_option maxRecDepth 100000 in
set_option maxHeartbeats 4000000 in
theorem walk (a0 : Option Addr) (len0 cap0 : Nat) (z0 : Go.Proofs.Ytnojfeffmbdpmaa.Tr.Ds) (a1 : Option Addr) (len1 cap1 : Nat) (z1 : List Go.Proofs.Ytnojfeffmbdpmaa.Tr.Ac) (a2 : Option Addr) (len2 cap2 : Nat) (z2 : List Go.Proofs.Ytnojfeffmbdpmaa.Tr.Ac) (w : World) (w0 : Go.Proofs.Ytnojfeffmbdpmaa.Tr.DomsIn w a0 len0 cap0 z0) (w1 : Go.Proofs.Ytnojfeffmbdpmaa.Tr.ActsIn w a1 len1 cap1 z1) (w2 : Go.Proofs.Ytnojfeffmbdpmaa.Tr.ActsIn w a2 len2 cap2 z2) :
    Calls Try.prog 4 #[.slice a0 len0 cap0, .slice a1 len1 cap1, .slice a2 len2 cap2] w fun e w' => e = .returned (.bool true) ∧ Since w w' := by
  obtain ⟨hn0, hS0, hB0, hL0⟩ := w0
  obtain ⟨hn1, hS1, hB1, hL1⟩ := w1
  obtain ⟨hn2, hS2, hB2, hL2⟩ := w2
  have AL := Lib.hid (alive_any w)
  have FI := Lib.hid (fun R (hR : fitsD z0 = R) W (kk : Since w W) => by have := fits_any _ z0 W (hS0.since stD kk) (by unfold maxLen at hL0; omega); rw [hR] at this; exact this)
  cases hf : fitsD z0 with
  | false =>
    have FI1 := Lib.hid (FI.out _ hf)
    clear FI hf hS0 hB0 hL0 hS1 hB1 hL1 hS2 hB2 hL2 hn0 hn1 hn2
    go_enter Try.func4, Try.ntmps4
    go_wp2_with (first
      | (go_at_call 7; (with_reducible refine (AL.out).mono ?_); rintro e w1 ⟨rfl, k1⟩)
      | (go_at_call 8; (with_reducible refine (FI1.out _ k1).mono ?_); rintro e w2 ⟨rfl, k2⟩))
    go_ret
    exact ⟨rfl, k1.trans k2⟩
  | true =>
    have FI1 := Lib.hid (FI.out _ hf)
    obtain ⟨hbd, hlz⟩ := fitsD_bd hf hB0
    have NW := Lib.hid (fun (hr : rightD z0 = false) W (kk : Since w W) => new_no (hS0.since stD kk) hlz hbd hr)
    have NY := Lib.hid (fun (hr : rightD z0 = true) W (kk : Since w W) => new_yes (hS0.since stD kk) hlz hbd hr)
    have RR := Lib.hid (fun R (hr : rightD z0 = R) W (kk : Since w W) => by have := rrightD_any _ z0 W (hS0.since stD kk) hlz hbd; rw [hr] at this; exact this)
    cases hr : rightD z0 with
    | false =>
      have NW1 := Lib.hid (NW.out hr)
      have RR1 := Lib.hid (RR.out _ hr)
      clear NW NY RR hr FI hf hS0 hB0 hL0 hS1 hB1 hL1 hS2 hB2 hL2 hn0 hn1 hn2 hbd hlz
      go_enter Try.func4, Try.ntmps4
      go_wp2_with (first
        | (go_at_call 7; (with_reducible refine (AL.out).mono ?_); rintro e w1 ⟨rfl, k1⟩)
        | (go_at_call 8; (with_reducible refine (FI1.out _ k1).mono ?_); rintro e w2 ⟨rfl, k2⟩)
        | (go_at_call 9; (with_reducible refine (NW1.out _ (k1.trans k2)).mono ?_); rintro e w3 ⟨rfl, k3⟩)
        | (go_at_call 10; (with_reducible refine (RR1.out _ ((k1.trans k2).trans k3)).mono ?_); rintro e w4 ⟨rfl, k4⟩))
      go_ret
      exact ⟨rfl, ((k1.trans k2).trans k3).trans k4⟩
    | true =>
      have NY1 := Lib.hid (NY.out hr)
      have H1 := Lib.hid hS1
      have H2 := Lib.hid hS2
      have N1 := Lib.hid hn1
      have N2 := Lib.hid hn2
      have B1 := Lib.hid hB1
      have B2 := Lib.hid hB2
      have hm1 : len1 ≤ 9223372036854775807 := by rw [← hn1]; exact hL1
      have hm2 : len2 ≤ 9223372036854775807 := by rw [← hn2]; exact hL2
      clear NW NY RR hr FI hf hS0 hB0 hL0 hS1 hB1 hL1 hS2 hB2 hL2 hn0 hn1 hn2 hbd hlz
      go_enter Try.func4, Try.ntmps4
      go_wp2_with (first
        | (go_at_call 7; (with_reducible refine (AL.out).mono ?_); rintro e w1 ⟨rfl, k1⟩)
        | (go_at_call 8; (with_reducible refine (FI1.out _ k1).mono ?_); rintro e w2 ⟨rfl, k2⟩)
        | (go_at_call 9; (with_reducible refine (NY1.out _ (k1.trans k2)).mono ?_); rintro e w3 ⟨b, G0, rfl, l3⟩; have L3 := Lib.hid l3; clear l3))
      have K2 := Lib.hid (k1.trans k2)
      clear AL FI1 NY1 k1 k2
      go_loopw [8] (fun i wr => ∃ (k : Nat) (G : Nat → Bool) (N : Nat) (s : Sto), i = .int .i64 (k : Int) ∧ k ≤ len1 ∧ k ≤ 60 ∧ N ≤ 2 * k ∧ Hid (Live w2 G N wr b s) ∧ Hid (s.W.length ≤ k)) (fun i _ => 60 - (intOf i).toNat)
      case atStart => exact ⟨0, G0, 0, _, rfl, Nat.zero_le _, Nat.zero_le _, Nat.le_refl _, L3.out, Nat.zero_le _⟩
      case round =>
        obtain ⟨k, G, N, s, rfl, hk, hk60, hN, HL, HW⟩ := hrel
        by_cases hc : k < len1 ∧ k < 60
        · obtain ⟨hc1, hc2⟩ := hc
          have hkl : k < z1.length := by have := N1.out; omega
          obtain ⟨g, o, B, m, d, rfl, hm, hSd, e0, e1, e2⟩ := elA H1.out hkl
          have hbd := B1.out _ (List.getElem_mem hkl)
          generalize z1[k] = y at *
          obtain ⟨kk, xx, dd⟩ := y
          simp only at hm hSd e0 e1 e2 hbd
          obtain ⟨hb1, hb2, hb3, hb4⟩ := hbd
          have up := K2.out.trans HL.out.k
          have f0 := (up.cell _ (World.block_lt_of_cell? _ _ e0)).trans e0
          have f1 := (up.cell _ (World.block_lt_of_cell? _ _ e1)).trans e1
          have f2 := (up.cell _ (World.block_lt_of_cell? _ _ e2)).trans e2
          clear e0 e1 e2 up
          subst hm
          have HSD := Lib.hid hSd
          have UPW := Lib.hid (K2.out.trans HL.out.k)
          have hb0 : 0 ≤ kk := hb1.1
          clear hSd hb1 hb2 hb4 hkl
          go_wp2_with (first
            | (go_at_call 12; (with_reducible refine (narrow_at (HL.out.since (since_alloc _ _)) (by omega) (HSD.out.since stR (UPW.out.trans (since_alloc _ _))) hb3 (by omega) (narrow_eta s xx dd)).mono ?_); rintro e w5 ⟨rfl, l5, v5⟩)
            | (go_at_call 15; (with_reducible refine (push_at (HL.out.since (since_alloc _ _)) (push_eta s)).mono ?_); rintro e w5 ⟨rfl, G5, l5, v5⟩))
          all_goals go_roundw
          all_goals first
            | (simp [intOf]; omega)
            | exact ⟨k + 1, G5, N, (pushD s).1, by go_num, by omega, by omega, by omega, l5, Nat.le_trans (pushD_len s) (Nat.succ_le_succ HW.out)⟩
            | exact ⟨k + 1, G, N + 2, (narrowD s xx dd).1, by go_num, by omega, by omega, by omega, l5, Lib.hid (by rw [narrowD_W]; exact Nat.le_succ_of_le HW.out)⟩
            | exact ⟨k + 1, G, N, s, by go_num, by omega, by omega, by omega, HL.out.since (since_alloc _ _), Nat.le_succ_of_le HW.out⟩
        · obtain ⟨L, hLe⟩ : ∃ L, s.W.length = L := ⟨_, rfl⟩
          have HLe := Lib.hid hLe
          have hL60 : L ≤ 60 := by have := HW.out; omega
          obtain ⟨nD, hnD⟩ : ∃ n, s.D.length = n := ⟨_, rfl⟩
          have HND := Lib.hid hnD
          have PE := Lib.hid (show pushD s = (⟨s.D, s.W ++ [s.D], s.F⟩, 0) from pushD_yes (by omega))
          have OK := Lib.hid HL.out.t.ok
          clear hLe hnD
          by_cases hkn : k < len1
          all_goals
            have hk60' : k < len1 → ¬ k < 60 := fun h1 h2 => hc ⟨h1, h2⟩
            clear hc
            try have hk6 := hk60' hkn
            clear hk60'
            go_wp2_with (first
              | (go_at_call 22; (with_reducible refine (all_at HL.out HND.out).mono ?_); rintro e w5 ⟨Aw, cw, rfl, hw5, k5⟩; have HW5 := Lib.hid hw5; clear hw5)
              | (go_at_call 23; (with_reducible refine (level_at (HL.out.since k5).t HLe.out).mono ?_); rintro e w6 ⟨rfl, k6⟩)
              | (go_at_call 15; (with_reducible refine (push_at ((HL.out.since k5).since k6) PE.out).mono ?_); rintro e w7 ⟨rfl, G2, l7, v7⟩; have L7 := Lib.hid l7; have W7 := Lib.hid (HW5.out.since stD ((Since.veil k6 G).trans v7)); clear l7 v7))
            clear k5 k6
            go_loopw [12] (fun i wr => ∃ (k : Nat) (G : Nat → Bool) (N : Nat) (s' : Sto), i = .int .i64 (k : Int) ∧ k ≤ len2 ∧ k ≤ 60 ∧ N ≤ 120 + 2 * k ∧ Hid (Live w2 G N wr b s') ∧ Hid (Behind s.W s.D s') ∧ Hid (Sl 1 QD (veil G wr) (.slice Aw nD cw) s.D)) (fun i _ => 60 - (intOf i).toNat)
            case atStart => exact ⟨0, G2, N, _, rfl, Nat.zero_le _, Nat.zero_le _, by omega, L7.out, ⟨[], rfl⟩, W7.out⟩
            case round =>
              obtain ⟨k4, G4, N4, s4, rfl, hk4, hk46, hN4, HL4, HB4, HW4⟩ := hrel
              by_cases hc : k4 < len2 ∧ k4 < 60
              · obtain ⟨hc1, hc2⟩ := hc
                have hkl : k4 < z2.length := by have := N2.out; omega
                obtain ⟨g, o, B, m, d, rfl, hm, hSd, e0, e1, e2⟩ := elA H2.out hkl
                have hbd := B2.out _ (List.getElem_mem hkl)
                generalize z2[k4] = y at *
                obtain ⟨kk, xx, dd⟩ := y
                simp only at hm hSd e0 e1 e2 hbd
                obtain ⟨hb1, hb2, hb3, hb4⟩ := hbd
                have up := K2.out.trans HL4.out.k
                have f0 := (up.cell _ (World.block_lt_of_cell? _ _ e0)).trans e0
                have f1 := (up.cell _ (World.block_lt_of_cell? _ _ e1)).trans e1
                have f2 := (up.cell _ (World.block_lt_of_cell? _ _ e2)).trans e2
                clear e0 e1 e2 up
                subst hm
                have HSD := Lib.hid hSd
                have UPW := Lib.hid (K2.out.trans HL4.out.k)
                have hb0 : 0 ≤ kk := hb1.1
                obtain ⟨q, hq⟩ : ∃ q, s4.W.length = q := ⟨_, rfl⟩
                have HQ := Lib.hid hq
                have hq5 : q ≤ 512 := by rw [← hq]; exact HL4.out.t.ok.lv
                clear hSd hb1 hb2 hb4 hkl hq
                go_wp2_with (first
                  | (go_at_call 12; (with_reducible refine (narrow_at (HL4.out.since (since_alloc _ _)) (by omega) (HSD.out.since stR (UPW.out.trans (since_alloc _ _))) hb3 (by omega) (narrow_eta s4 xx dd)).mono ?_); rintro e w5 ⟨rfl, l5, v5⟩)
                  | (go_at_call 15; (with_reducible refine (push_at (HL4.out.since (since_alloc _ _)) (push_eta s4)).mono ?_); rintro e w5 ⟨rfl, G5, l5, v5⟩)
                  | (go_at_call 23; (with_reducible refine (level_at (HL4.out.since (since_alloc _ _)).t HQ.out).mono ?_); rintro e w4' ⟨rfl, kv⟩)
                  | (go_at_call 17; (with_reducible refine (pop_at ((HL4.out.since (since_alloc _ _)).since kv) (pop_eta s4)).mono ?_); rintro e w5 ⟨rfl, l5, v5⟩))
                all_goals go_roundw
                all_goals first
                  | (simp [intOf]; omega)
                  | exact ⟨k4 + 1, G5, N4, (pushD s4).1, by go_num, by omega, by omega, by omega, l5, HB4.out.push, HW4.out.since stD ((Since.veil (since_alloc _ _) G4).trans v5)⟩
                  | exact ⟨k4 + 1, G4, N4 + 2, (narrowD s4 xx dd).1, by go_num, by omega, by omega, by omega, l5, HB4.out.narrow xx dd, HW4.out.since stD ((Since.veil (since_alloc _ _) G4).trans v5)⟩
                  | exact ⟨k4 + 1, G4, N4, (popD s4).1, by go_num, by omega, by omega, by omega, l5, HB4.out.pop (by have h1 := HQ.out; have h2 := HLe.out; omega), HW4.out.since stD (((Since.veil (since_alloc _ _) G4).trans (Since.veil kv G4)).trans v5)⟩
                  | exact ⟨k4 + 1, G4, N4, s4, by go_num, by omega, by omega, by omega, (HL4.out.since (since_alloc _ _)).since kv, HB4.out, HW4.out.since stD ((Since.veil (since_alloc _ _) G4).trans (Since.veil kv G4))⟩
                  | exact ⟨k4 + 1, G4, N4, s4, by go_num, by omega, by omega, by omega, HL4.out.since (since_alloc _ _), HB4.out, HW4.out.since stD (Since.veil (since_alloc _ _) G4)⟩
              · by_cases hkn4 : k4 < len2
                all_goals
                  have hk60' : k4 < len2 → ¬ k4 < 60 := fun h1 h2 => hc ⟨h1, h2⟩
                  clear hc
                  try have hk6 := hk60' hkn4
                  clear hk60'
                  go_wp2
                  go_loopw [118] (fun _ wr => ∃ (G : Nat → Bool) (N : Nat) (s' : Sto), N ≤ 240 ∧ Hid (Live w2 G N wr b s') ∧ Hid (Back' s.W s.D s') ∧ Hid (Sl 1 QD (veil G wr) (.slice Aw nD cw) s.D)) (fun _ wr => lvOf b wr)
                  case atStart => exact ⟨G4, N4, s4, by omega, HL4.out, .inl HB4.out, HW4.out⟩
                  case round =>
                    obtain ⟨G6, N6, s6, hN6, HL6, HB6, HW6⟩ := hrel
                    obtain ⟨q, hq⟩ : ∃ q, s6.W.length = q := ⟨_, rfl⟩
                    have HQ := Lib.hid hq
                    have hq5 : q ≤ 512 := by rw [← hq]; exact HL6.out.t.ok.lv
                    by_cases hlv : L < q
                    · have hp := HB6.out.pop (by have h2 := HLe.out; omega)
                      have PE6 := Lib.hid (show popD s6 = ((popD s6).1, 0) from Prod.ext rfl hp.2.1)
                      have HP := Lib.hid hp
                      clear hp hq
                      go_wp2_with (first
                        | (go_at_call 23; (with_reducible refine (level_at HL6.out.t HQ.out).mono ?_); rintro e w8 ⟨rfl, kv⟩)
                        | (go_at_call 17; (with_reducible refine (pop_at (HL6.out.since kv) PE6.out).mono ?_); rintro e w9 ⟨rfl, l9, v9⟩))
                      go_roundw
                      case rel => exact ⟨G6, N6, (popD s6).1, hN6, l9, HP.out.1, HW6.out.since stD ((Since.veil kv G6).trans v9)⟩
                      case measure =>
                        rw [l9.t.lv, HL6.out.t.lv]
                        have h1 := HP.out.2.2
                        omega
                    · have hd := HB6.out.done (by have h2 := HLe.out; omega)
                      obtain rfl : q = L := by have h2 := HLe.out; have h3 := congrArg List.length hd.1; omega
                      have HD := Lib.hid hd
                      have HN6 := Lib.hid (show s6.D.length = nD by rw [hd.2.1]; exact HND.out)
                      have CH := Lib.hid (show (told 0 s6.F).length = 0 by rw [hd.2.2]; rfl)
                      have DL := Lib.hid (show (s6.D.length ≤ 100000 ∧ s.D.length ≤ 100000) ∧ ∀ d ∈ s.D, d.length ≤ 1100000 from ⟨⟨by have := HL6.out.t.ok.n; omega, by have := OK.out.n; omega⟩, fun d hd => (OK.out.D d hd).2.2⟩)
                      have DT := Lib.hid (show decide (s6.D = s.D) = true from decide_eq_true hd.2.1)
                      clear hd hq
                      go_wp2_with (first
                        | (go_at_call 23; (with_reducible refine (level_at HL6.out.t HQ.out).mono ?_); rintro e w8 ⟨rfl, kv⟩)
                        | (go_at_call 22; (with_reducible refine (all_at (HL6.out.since kv) HN6.out).mono ?_); rintro e w9 ⟨Ax, cx, rfl, hx9, k9⟩; have HX9 := Lib.hid hx9; clear hx9)
                        | (go_at_call 21; (with_reducible refine (doms_at (sld_unveil HX9.out) (sld_unveil (HW6.out.since stD ((Since.veil kv G6).trans (Since.veil k9 G6)))) DL.out.1.1 DL.out.1.2 DL.out.2 DT.out).mono ?_); rintro e w10 ⟨rfl, k10⟩)
                        | (go_at_call 23; (with_reducible refine (level_at (((HL6.out.since kv).since k9).since k10).t HQ.out).mono ?_); rintro e w11 ⟨rfl, k11⟩)
                        | (go_at_call 20; (with_reducible refine (changed_at ((((HL6.out.since kv).since k9).since k10).since k11) (by omega) (changed_eta s6) CH.out).mono ?_); rintro e w12 ⟨Ac, cc, rfl, -, l12, -⟩))
                      go_ret
                      exact ⟨rfl, K2.out.trans l12.k⟩

set_option maxRecDepth 100000 in
theorem lifted (os : Os) (started : os.Started) (H : Type) (enc : TypeId × Value → H) :
    ReturnsInHanded {} Try.checked os 4 .any (Rows.trailBackSpec.pre6 enc Try.prog Try.f4 Rows.trailBackRow.domain false) (Rows.trailBackSpec.post enc Try.prog Try.f4 false true false false) := by
  refine returnsInHanded_of_change (C := Try.checked) own started (by kernel_rfl) Try.func4
    (ChangeSpec.witness6 (enc := enc) (C := Try.checked) false ⟨#[], #[.slice none 0 0, .slice none 0 0, .slice none 0 0], []⟩ 8 (by kernel_rfl) (by kernel_rfl) (by kernel_rfl) (by kernel_rfl)) ?_
  intro W base args ds gs before hval0 hW hcnd _
  have hval : ∀ (j : Nat) t v, Try.f4.params[j]? = some t → args[j]? = some v → Value.okWide Try.prog W .any base t v := hval0
  have hW' := hW
  obtain ⟨p, q, hA0, hV, rfl, hfz, hnd⟩ := hW
  have hA : DataW.TrodAll enc Try.prog W 0 (fun _ => true) true Try.f4.params.toList args.toList ds p := hA0
  rw [Try.params4] at hA hval
  obtain ⟨v0, vs0, d0, ds0, p0, q0, hargs, rfl, rfl, h0, r0⟩ := trodAll_cons hA
  obtain ⟨v1, vs1, d1, ds1, p1, q1, rfl, rfl, rfl, h1, r1⟩ := trodAll_cons r0
  obtain ⟨v2, vs2, d2, ds2, p2, q2, rfl, rfl, rfl, h2, r2⟩ := trodAll_cons r1
  obtain ⟨rfl, rfl, rfl⟩ := trodAll_nil r2
  obtain rfl : args = #[v0, v1, v2] := by cases args; simp_all
  obtain ⟨rfl, rfl⟩ := trodVars_none hV
  obtain ⟨a0, len0, cap0, rfl⟩ := okWide_slice Try.underlying22 (hval 0 22 v0 rfl rfl)
  have k0 := h0
  have lt0 : ∀ x ∈ p0, x.block < W.heap.size := by obtain ⟨m, hm⟩ := k0; exact DataW.trod_lt m _ _ _ hm
  obtain ⟨z0, w0⟩ : ∃ zs, Go.Proofs.Ytnojfeffmbdpmaa.Tr.DomsIn W a0 len0 cap0 zs := by
    obtain ⟨fuel, hf⟩ := h0
    exact Go.Proofs.Ytnojfeffmbdpmaa.Tr.doms_in Try.underlying22 (by kernel_rfl) Try.underlying33 Try.underlying65 (by kernel_rfl) rfl rfl (by kernel_rfl) (by kernel_rfl) Try.underlying2 Try.underlying2 hf
  obtain ⟨a1, len1, cap1, rfl⟩ := okWide_slice Try.underlying23 (hval 1 23 v1 rfl rfl)
  have k1 := h1
  have lt1 : ∀ x ∈ p1, x.block < W.heap.size := by obtain ⟨m, hm⟩ := k1; exact DataW.trod_lt m _ _ _ hm
  obtain ⟨z1, w1⟩ : ∃ zs, Go.Proofs.Ytnojfeffmbdpmaa.Tr.ActsIn W a1 len1 cap1 zs := by
    obtain ⟨fuel, hf⟩ := h1
    exact Go.Proofs.Ytnojfeffmbdpmaa.Tr.acts_in Try.underlying23 Try.underlying35 (by kernel_rfl) ⟨rfl, rfl, rfl⟩ ⟨by kernel_rfl, by kernel_rfl, by kernel_rfl⟩ ⟨Try.underlying5, Try.underlying3, Try.underlying33⟩ Try.underlying65 (by kernel_rfl) rfl rfl (by kernel_rfl) (by kernel_rfl) Try.underlying2 Try.underlying2 hf
  obtain ⟨a2, len2, cap2, rfl⟩ := okWide_slice Try.underlying23 (hval 2 23 v2 rfl rfl)
  have k2 := h2
  have lt2 : ∀ x ∈ p2, x.block < W.heap.size := by obtain ⟨m, hm⟩ := k2; exact DataW.trod_lt m _ _ _ hm
  obtain ⟨z2, w2⟩ : ∃ zs, Go.Proofs.Ytnojfeffmbdpmaa.Tr.ActsIn W a2 len2 cap2 zs := by
    obtain ⟨fuel, hf⟩ := h2
    exact Go.Proofs.Ytnojfeffmbdpmaa.Tr.acts_in Try.underlying23 Try.underlying35 (by kernel_rfl) ⟨rfl, rfl, rfl⟩ ⟨by kernel_rfl, by kernel_rfl, by kernel_rfl⟩ ⟨Try.underlying5, Try.underlying3, Try.underlying33⟩ Try.underlying65 (by kernel_rfl) rfl rfl (by kernel_rfl) (by kernel_rfl) Try.underlying2 Try.underlying2 hf
  clear hA0 hval0
  refine (walk a0 len0 cap0 z0 a1 len1 cap1 z1 a2 len2 cap2 z2 W w0 w1 w2).mono fun e W' ⟨he, bel⟩ => ?_
  subst he
  exact ⟨_, rfl, _, _, _, [], _, [], hW', trodAll_mk1 (shut_bool Try.underlying4 _), (trodAll_cons_mk (Below.trod laidOut (by kernel_rfl) (of_decide_eq_true (by kernel_rfl)) k0 bel lt0) (trodAll_cons_mk (Below.trod laidOut (by kernel_rfl) (of_decide_eq_true (by kernel_rfl)) k1 bel lt1) (trodAll_cons_mk (Below.trod laidOut (by kernel_rfl) (of_decide_eq_true (by kernel_rfl)) k2 bel lt2) trodAll_mk0))), rfl, bel.frame _, fun h => by cases h⟩

theorem over : Rows.trailBackRow.holds Try.pinned (OpenSpec.ofChange Rows.trailBackSpec) :=
  OpenClaim.holds_of_wide 4 Try.f4 rfl rfl rfl rfl rfl rfl rfl ⟨rfl, rfl, rfl, rfl, rfl⟩ rfl rfl rfl rfl rfl (by kernel_rfl) Try.func4 (by kernel_rfl)
    (of_decide_eq_true (by kernel_rfl)) (by unfold Func.isWrapper; first | (rw [if_pos (by decide +kernel)]; kernel_rfl) | (rw [if_neg (by decide +kernel)]; exact ⟨rfl, rfl⟩))
    (fun os started H enc _ => lifted os started H enc)

/-- THE STATEMENT -/
theorem proved : Rows.TrailBackSaid := over
#print axioms proved
end Go.Proofs.Ytnojfeffmbdpmaa.trailBack
