/-
  For all ranges a and all v: the law SetSizes returns true (a set that is cut in two has as many values as both parts; without a value that it has one less). No condition.
-/
import Derived.Test.YtdlbfpodgjkimaaRows
import Derived.WalkKit
import Derived.ProofKit
import Derived.OpenShut
import Derived.ShutString
import Derived.ChangeOld
import Derived.Below
import Derived.Test.YtdlbfpodgjkimaaEy
import Derived.Test.YtdlbfpodgjkimaaEe
namespace Go.Proofs.Ytdlbfpodgjkimaa.setSizes
open Go.ChangeShapes Go.WideShapes Go.ChangeAt Go.RowKit
open Go.ChangeMaps (open_string shut_string)
open Go.Proofs.Ytdlbfpodgjkimaa.Dig Go.Proofs.Ytdlbfpodgjkimaa.Zs
open Go.Proofs.Ytdlbfpodgjkimaa.Ti (Sl QR stR)
set_option linter.unusedVariables false

theorem own : ownKnob Try.prog.godebug = none := by kernel_rfl
theorem laidOut : laidOutB Try.prog = true := by kernel_rfl

/-- WHAT THE WALK IS TOLD OF A SLICE OF INTEGERS THAT CAME IN: it is nil; or it leads to a row of 'cap' cells, the numbers 'zs' (the first 'len' are its elements, the rest its spare room), each fitting its kind. -/
def IsRow (k : IntKind) (w : World) (a : Option Addr) (len cap : Nat) (zs : List Int) : Prop :=
  (a = none ∧ len = 0 ∧ cap = 0 ∧ zs = []) ∨
  ∃ x, a = some x ∧ len ≤ cap ∧ cap ≤ maxLen ∧ zs.length = cap ∧ (∀ i, i < zs.length → w.cell? (x.add i) = some (.int k (zs.getD i 0))) ∧ ∀ n ∈ zs, (Lit.int k n).wf = true

set_option maxHeartbeats 4000000 in
theorem walk (a0 : Option Addr) (len0 cap0 : Nat) (z0 : List Go.Proofs.Ytdlbfpodgjkimaa.Zs.Rn) (a1 : Int) (w : World) (w0 : Go.Proofs.Ytdlbfpodgjkimaa.Zs.RangesIn w a0 len0 cap0 z0) (w1 : (Lit.int .i64 a1).wf = true) :
    Calls Try.prog 8 #[.slice a0 len0 cap0, .int .i64 a1] w fun e w' => e = .returned (.bool true) ∧ Since w w' := by
  obtain ⟨hn0, hS, hB, -⟩ := w0
  subst hn0
  have AL := Lib.hid (alive_any w)
  have hx := wf_fits w1
  by_cases hbig : z0.length > 300
  · clear hS hB hx w1
    go_enter Try.func8, Try.ntmps8
    go_wp2_with (first
      | (go_at_call 10; (with_reducible refine (AL.out).mono ?_); rintro e w1 ⟨rfl, k1⟩; have K1 := k1))
    go_ret
    exact ⟨rfl, K1⟩
  cases r0 : right z0 with
  | false =>
    have RA := Lib.hid (fun W k => right_at hS (by omega) hB r0 W k)
    clear hS hB hx w1 r0
    go_enter Try.func8, Try.ntmps8
    go_wp2_with (first
      | (go_at_call 10; (with_reducible refine (AL.out).mono ?_); rintro e w1 ⟨rfl, k1⟩; have K1 := k1)
      | (go_at_call 14; (with_reducible refine (RA.out _ K1).mono ?_); rintro e w2 ⟨rfl, k2⟩; have K2 := K1.trans k2))
    go_ret
    exact ⟨rfl, K2⟩
  | true =>
    have RA := Lib.hid (fun W k => right_at hS (by omega) hB r0 W k)
    simp only [Lx.fits] at hx
    obtain ⟨L, hL⟩ : ∃ L, cut z0 (-1048576) a1 = L := ⟨_, rfl⟩
    obtain ⟨G, hG⟩ : ∃ G, cut z0 (a1 + 1) 1048576 = G := ⟨_, rfl⟩
    obtain ⟨U, hU⟩ : ∃ U, without z0 a1 = U := ⟨_, rfl⟩
    have hLr : right L = true := hL ▸ cut_right z0 _ _
    have hGr : right G = true := hG ▸ cut_right z0 _ _
    have hUr : right U = true := hU ▸ without_right z0 _
    have hLl : L.length ≤ 300 := by have := cut_len z0 (-1048576) a1; rw [hL] at this; omega
    have hGl : G.length ≤ 300 := by have := cut_len z0 (a1 + 1) 1048576; rw [hG] at this; omega
    have hUl : U.length ≤ 600 := by have := without_len z0 a1; rw [hU] at this; omega
    obtain ⟨sL, hsL⟩ : ∃ s, size L = s := ⟨_, rfl⟩
    obtain ⟨sG, hsG⟩ : ∃ s, size G = s := ⟨_, rfl⟩
    obtain ⟨sU, hsU⟩ : ∃ s, size U = s := ⟨_, rfl⟩
    obtain ⟨n, hn⟩ : ∃ s, size z0 = s := ⟨_, rfl⟩
    have bnd : ∀ l : List Rn, right l = true → 0 ≤ size l ∧ size l ≤ 2097154 := fun l h => by
      have := sizeF_le h (by decide)
      rw [size, if_pos h]; simp only [mx] at this; omega
    have bL := bnd L hLr
    have bG := bnd G hGr
    have bN := bnd z0 r0
    rw [hsL] at bL
    rw [hsG] at bG
    rw [hn] at bN
    have sz : ∀ l : List Rn, right l = true → size l = sizeF l := fun l h => by rw [size, if_pos h]
    have hsum : a1 < 1048576 → sL + sG = n := fun _ => by
      rw [← hsL, ← hsG, ← hn, sz L hLr, sz G hGr, sz z0 r0, ← hL, ← hG, cut, if_pos r0, cut, if_pos r0]
      exact size_parts r0 (-1048576) 1048576 a1 (Int.le_refl _) (Int.le_refl _)
    have hall : ¬ a1 < 1048576 → sL = n := fun h => by
      rw [← hsL, ← hn, sz L hLr, sz z0 r0, ← hL, cut, if_pos r0]
      exact size_cut_all r0 (-1048576) a1 (Int.le_refl _) (by simp only [mx]; omega)
    have hwo : sU = n - if has z0 a1 then 1 else 0 := by
      have e : has z0 a1 = hasF z0 a1 := by rw [has, r0, Bool.true_and]
      rw [e, ← hsU, ← hn, sz U hUr, sz z0 r0, ← hU, without, if_pos r0]
      exact size_without r0 a1
    obtain ⟨⟨e0, e1⟩, he⟩ : ∃ q, (ends z0).getD (0, 0) = q := ⟨_, rfl⟩
    have hes : (ends z0).isSome = decide (0 < n) := hn ▸ ends_some r0
    have hnf := next_first (lo := -1048576) r0 (Int.le_refl _)
    have hn1 : (next z0 (-1048576)).getD 0 = e0 := by rw [hnf]; cases h : ends z0 with | none => rw [h] at he; simpa using congrArg Prod.fst he | some q => rw [h] at he; simpa using congrArg Prod.fst he
    have hn2 : (next z0 (-1048576)).isSome = decide (0 < n) := by rw [hnf, ← hes]; cases ends z0 <;> rfl
    have SN := Lib.hid (fun W (k : Since w W) => hn ▸ size_any _ z0 W (hS.since stR k) (by omega) hB)
    have CL := Lib.hid (fun W (k : Since w W) => hL ▸ cut_any _ z0 (-1048576) a1 W (hS.since stR k) (by omega) hB)
    have CG := Lib.hid (fun W (k : Since w W) => hG ▸ cut_any _ z0 (a1 + 1) 1048576 W (hS.since stR k) (by omega) hB)
    have WU := Lib.hid (fun W (k : Since w W) => hU ▸ without_any _ z0 a1 W (hS.since stR k) (by omega) hB (by simp only [Lx.fits]; omega))
    have SL := Lib.hid (fun (v : Value) (W : World) (h : Sl 2 QR W v L) => hsL ▸ size_any v L W h (by omega) (okF_bd hLr (Int.le_refl _)))
    have SG := Lib.hid (fun (v : Value) (W : World) (h : Sl 2 QR W v G) => hsG ▸ size_any v G W h (by omega) (okF_bd hGr (Int.le_refl _)))
    have SU := Lib.hid (fun (v : Value) (W : World) (h : Sl 2 QR W v U) => hsU ▸ size_any v U W h (by omega) (okF_bd hUr (Int.le_refl _)))
    have S0 := Lib.hid (fun (W : World) => show Calls Try.prog 22 #[.slice none 0 0] W (RetI 0 W) from size_any _ [] W (Go.Proofs.Ytdlbfpodgjkimaa.Ti.Sl.nil _ _ _) (by decide) (fun r hr => by cases hr))
    have EN := Lib.hid (fun W (k : Since w W) => (ends_any _ z0 W (hS.since stR k) (by omega) hB).mono fun e w' h => h.as he hes)
    have NE := Lib.hid (fun W (k : Since w W) => (next_any _ z0 (-1048576) W (hS.since stR k) (by omega) hB (by simp only [Lx.fits]; omega)).mono fun e w' h => h.as hn1 hn2)
    have HA := Lib.hid (fun W (k : Since w W) => has_any _ z0 a1 W (hS.since stR k) (by omega) hB (by simp only [Lx.fits]; omega))
    have BX := Lib.hid (fun W => Bx.fresh W #[.int .i64 e0, .int .i64 e1] 32)
    have BS := Lib.hid (fun W => since_alloc W (.cells #[.int .i64 e0, .int .i64 e1] 32))
    clear hS hB hL hG hU hLr hGr hUr hsL hsG hsU hn bnd sz he hes hnf hn1 hn2 r0 w1
    by_cases hv : a1 < 1048576
    · cases hh : has z0 a1 with
      | false =>
        rw [hh] at HA hwo
        rw [if_neg (by decide), Int.sub_zero] at hwo
        obtain rfl : n = sL + sG := (hsum hv).symm
        subst hwo
        clear hsum hall hh
        go_enter Try.func8, Try.ntmps8
        go_wp2_with (first
          | (go_at_call 10; (with_reducible refine (AL.out).mono ?_); rintro e w1 ⟨rfl, k1⟩; have K1 := k1)
          | (go_at_call 14; (with_reducible refine (RA.out _ K1).mono ?_); rintro e w2 ⟨rfl, k2⟩; have K2 := K1.trans k2)
          | (go_at_call 22; (with_reducible refine (SN.out _ K2).mono ?_); rintro e w3 ⟨rfl, k3⟩; have K3 := K2.trans k3)
          | (go_at_call 24; (with_reducible refine (CL.out _ K3).mono ?_); rintro e w4 ⟨A4, m4, c4, rfl, -, h4, k4⟩; have K4 := K3.trans k4)
          | (go_at_call 24; (with_reducible refine (CG.out _ K4).mono ?_); rintro e w5 ⟨A5, m5, c5, rfl, -, h5, k5⟩; have K5 := K4.trans k5)
          | (go_at_call 20; (with_reducible refine (HA.out _ K5).mono ?_); rintro e w6 ⟨rfl, k6⟩; have K6 := K5.trans k6)
          | (go_at_call 16; (with_reducible refine (EN.out _ K6).mono ?_); rintro e w7 ⟨rfl, k7⟩; have K7 := K6.trans k7; have b7 := BX.out w7; obtain ⟨u0, u1⟩ := b7.two; have K7 := K7.trans (BS.out w7); have J7 := (k7.trans (BS.out w7)))
          | (go_at_call 18; (with_reducible refine (NE.out _ K7).mono ?_); rintro e w8 ⟨rfl, k8⟩; have K8 := K7.trans k8; clear u0 u1)
          | (go_at_call 22; (with_reducible refine (SL.out _ _ (h4.since stR (((k5.trans k6).trans J7).trans k8))).mono ?_); rintro e w9 ⟨rfl, k9⟩; have K9 := K8.trans k9)
          | (go_at_call 22; (with_reducible refine (SG.out _ _ (h5.since stR (((k6.trans J7).trans k8).trans k9))).mono ?_); rintro e w10 ⟨rfl, k10⟩; have K10 := K9.trans k10)
          | (go_at_call 26; (with_reducible refine (WU.out _ K10).mono ?_); rintro e w11 ⟨A9, m9, c9, rfl, -, h9, k11⟩; have K11 := K10.trans k11)
          | (go_at_call 22; (with_reducible refine (SU.out _ _ h9).mono ?_); rintro e w12 ⟨rfl, k12⟩; have K12 := K11.trans k12; obtain ⟨x0, x1⟩ := (b7.since ((((k8.trans k9).trans k10).trans k11).trans k12)).two))
        go_ret
        exact ⟨by simp, K12⟩
      | true =>
        rw [hh] at HA hwo
        rw [if_pos rfl] at hwo
        obtain rfl : n = sL + sG := (hsum hv).symm
        subst hwo
        clear hsum hall hh
        go_enter Try.func8, Try.ntmps8
        go_wp2_with (first
          | (go_at_call 10; (with_reducible refine (AL.out).mono ?_); rintro e w1 ⟨rfl, k1⟩; have K1 := k1)
          | (go_at_call 14; (with_reducible refine (RA.out _ K1).mono ?_); rintro e w2 ⟨rfl, k2⟩; have K2 := K1.trans k2)
          | (go_at_call 22; (with_reducible refine (SN.out _ K2).mono ?_); rintro e w3 ⟨rfl, k3⟩; have K3 := K2.trans k3)
          | (go_at_call 24; (with_reducible refine (CL.out _ K3).mono ?_); rintro e w4 ⟨A4, m4, c4, rfl, -, h4, k4⟩; have K4 := K3.trans k4)
          | (go_at_call 24; (with_reducible refine (CG.out _ K4).mono ?_); rintro e w5 ⟨A5, m5, c5, rfl, -, h5, k5⟩; have K5 := K4.trans k5)
          | (go_at_call 20; (with_reducible refine (HA.out _ K5).mono ?_); rintro e w6 ⟨rfl, k6⟩; have K6 := K5.trans k6)
          | (go_at_call 16; (with_reducible refine (EN.out _ K6).mono ?_); rintro e w7 ⟨rfl, k7⟩; have K7 := K6.trans k7; have b7 := BX.out w7; obtain ⟨u0, u1⟩ := b7.two; have K7 := K7.trans (BS.out w7); have J7 := (k7.trans (BS.out w7)))
          | (go_at_call 18; (with_reducible refine (NE.out _ K7).mono ?_); rintro e w8 ⟨rfl, k8⟩; have K8 := K7.trans k8; clear u0 u1)
          | (go_at_call 22; (with_reducible refine (SL.out _ _ (h4.since stR (((k5.trans k6).trans J7).trans k8))).mono ?_); rintro e w9 ⟨rfl, k9⟩; have K9 := K8.trans k9)
          | (go_at_call 22; (with_reducible refine (SG.out _ _ (h5.since stR (((k6.trans J7).trans k8).trans k9))).mono ?_); rintro e w10 ⟨rfl, k10⟩; have K10 := K9.trans k10)
          | (go_at_call 26; (with_reducible refine (WU.out _ K10).mono ?_); rintro e w11 ⟨A9, m9, c9, rfl, -, h9, k11⟩; have K11 := K10.trans k11)
          | (go_at_call 22; (with_reducible refine (SU.out _ _ h9).mono ?_); rintro e w12 ⟨rfl, k12⟩; have K12 := K11.trans k12; obtain ⟨x0, x1⟩ := (b7.since ((((k8.trans k9).trans k10).trans k11).trans k12)).two))
        go_ret
        exact ⟨by simp, K12⟩
    · cases hh : has z0 a1 with
      | false =>
        rw [hh] at HA hwo
        rw [if_neg (by decide), Int.sub_zero] at hwo
        obtain rfl : n = sL := (hall hv).symm
        subst hwo
        clear hsum hall hh
        go_enter Try.func8, Try.ntmps8
        go_wp2_with (first
          | (go_at_call 10; (with_reducible refine (AL.out).mono ?_); rintro e w1 ⟨rfl, k1⟩; have K1 := k1)
          | (go_at_call 14; (with_reducible refine (RA.out _ K1).mono ?_); rintro e w2 ⟨rfl, k2⟩; have K2 := K1.trans k2)
          | (go_at_call 22; (with_reducible refine (SN.out _ K2).mono ?_); rintro e w3 ⟨rfl, k3⟩; have K3 := K2.trans k3)
          | (go_at_call 24; (with_reducible refine (CL.out _ K3).mono ?_); rintro e w4 ⟨A4, m4, c4, rfl, -, h4, k4⟩; have K4 := K3.trans k4)
          | (go_at_call 20; (with_reducible refine (HA.out _ K4).mono ?_); rintro e w5 ⟨rfl, k5⟩; have K5 := K4.trans k5)
          | (go_at_call 16; (with_reducible refine (EN.out _ K5).mono ?_); rintro e w6 ⟨rfl, k6⟩; have K6 := K5.trans k6; have b6 := BX.out w6; obtain ⟨u0, u1⟩ := b6.two; have K6 := K6.trans (BS.out w6); have J6 := (k6.trans (BS.out w6)))
          | (go_at_call 18; (with_reducible refine (NE.out _ K6).mono ?_); rintro e w7 ⟨rfl, k7⟩; have K7 := K6.trans k7; clear u0 u1)
          | (go_at_call 22; (with_reducible refine (SL.out _ _ (h4.since stR ((k5.trans J6).trans k7))).mono ?_); rintro e w8 ⟨rfl, k8⟩; have K8 := K7.trans k8)
          | (go_at_call 22; (with_reducible refine (S0.out _).mono ?_); rintro e w9 ⟨rfl, k9⟩; have K9 := K8.trans k9)
          | (go_at_call 26; (with_reducible refine (WU.out _ K9).mono ?_); rintro e w10 ⟨A9, m9, c9, rfl, -, h9, k10⟩; have K10 := K9.trans k10)
          | (go_at_call 22; (with_reducible refine (SU.out _ _ h9).mono ?_); rintro e w11 ⟨rfl, k11⟩; have K11 := K10.trans k11; obtain ⟨x0, x1⟩ := (b6.since ((((k7.trans k8).trans k9).trans k10).trans k11)).two))
        go_ret
        exact ⟨by simp, K11⟩
      | true =>
        rw [hh] at HA hwo
        rw [if_pos rfl] at hwo
        obtain rfl : n = sL := (hall hv).symm
        subst hwo
        clear hsum hall hh
        go_enter Try.func8, Try.ntmps8
        go_wp2_with (first
          | (go_at_call 10; (with_reducible refine (AL.out).mono ?_); rintro e w1 ⟨rfl, k1⟩; have K1 := k1)
          | (go_at_call 14; (with_reducible refine (RA.out _ K1).mono ?_); rintro e w2 ⟨rfl, k2⟩; have K2 := K1.trans k2)
          | (go_at_call 22; (with_reducible refine (SN.out _ K2).mono ?_); rintro e w3 ⟨rfl, k3⟩; have K3 := K2.trans k3)
          | (go_at_call 24; (with_reducible refine (CL.out _ K3).mono ?_); rintro e w4 ⟨A4, m4, c4, rfl, -, h4, k4⟩; have K4 := K3.trans k4)
          | (go_at_call 20; (with_reducible refine (HA.out _ K4).mono ?_); rintro e w5 ⟨rfl, k5⟩; have K5 := K4.trans k5)
          | (go_at_call 16; (with_reducible refine (EN.out _ K5).mono ?_); rintro e w6 ⟨rfl, k6⟩; have K6 := K5.trans k6; have b6 := BX.out w6; obtain ⟨u0, u1⟩ := b6.two; have K6 := K6.trans (BS.out w6); have J6 := (k6.trans (BS.out w6)))
          | (go_at_call 18; (with_reducible refine (NE.out _ K6).mono ?_); rintro e w7 ⟨rfl, k7⟩; have K7 := K6.trans k7; clear u0 u1)
          | (go_at_call 22; (with_reducible refine (SL.out _ _ (h4.since stR ((k5.trans J6).trans k7))).mono ?_); rintro e w8 ⟨rfl, k8⟩; have K8 := K7.trans k8)
          | (go_at_call 22; (with_reducible refine (S0.out _).mono ?_); rintro e w9 ⟨rfl, k9⟩; have K9 := K8.trans k9)
          | (go_at_call 26; (with_reducible refine (WU.out _ K9).mono ?_); rintro e w10 ⟨A9, m9, c9, rfl, -, h9, k10⟩; have K10 := K9.trans k10)
          | (go_at_call 22; (with_reducible refine (SU.out _ _ h9).mono ?_); rintro e w11 ⟨rfl, k11⟩; have K11 := K10.trans k11; obtain ⟨x0, x1⟩ := (b6.since ((((k7.trans k8).trans k9).trans k10).trans k11)).two))
        go_ret
        exact ⟨by simp, K11⟩

set_option maxRecDepth 100000 in
theorem lifted (os : Os) (started : os.Started) (H : Type) (enc : TypeId × Value → H) :
    ReturnsInHanded {} Try.checked os 8 .any (Rows.setSizesSpec.pre6 enc Try.prog Try.f8 Rows.setSizesRow.domain false) (Rows.setSizesSpec.post enc Try.prog Try.f8 false true false false) := by
  refine returnsInHanded_of_change (C := Try.checked) own started (by kernel_rfl) Try.func8
    (ChangeSpec.witness6 (enc := enc) (C := Try.checked) false ⟨#[], #[.slice none 0 0, .int .i64 0], []⟩ 8 (by kernel_rfl) (by kernel_rfl) (by kernel_rfl) (by kernel_rfl)) ?_
  intro W base args ds gs before hval0 hW hcnd _
  have hval : ∀ (j : Nat) t v, Try.f8.params[j]? = some t → args[j]? = some v → Value.okWide Try.prog W .any base t v := hval0
  have hW' := hW
  obtain ⟨p, q, hA0, hV, rfl, hfz, hnd⟩ := hW
  have hA : DataW.TrodAll enc Try.prog W 0 (fun _ => true) true Try.f8.params.toList args.toList ds p := hA0
  rw [Try.params8] at hA hval
  obtain ⟨v0, vs0, d0, ds0, p0, q0, hargs, rfl, rfl, h0, r0⟩ := trodAll_cons hA
  obtain ⟨v1, vs1, d1, ds1, p1, q1, rfl, rfl, rfl, h1, r1⟩ := trodAll_cons r0
  obtain ⟨rfl, rfl, rfl⟩ := trodAll_nil r1
  obtain rfl : args = #[v0, v1] := by cases args; simp_all
  obtain ⟨rfl, rfl⟩ := trodVars_none hV
  obtain ⟨a0, len0, cap0, rfl⟩ := okWide_slice Try.underlying22 (hval 0 22 v0 rfl rfl)
  have k0 := h0
  have lt0 : ∀ x ∈ p0, x.block < W.heap.size := by obtain ⟨m, hm⟩ := k0; exact DataW.trod_lt m _ _ _ hm
  obtain ⟨z0, w0⟩ : ∃ zs, Go.Proofs.Ytdlbfpodgjkimaa.Zs.RangesIn W a0 len0 cap0 zs := by
    obtain ⟨fuel, hf⟩ := h0
    exact Go.Proofs.Ytdlbfpodgjkimaa.Zs.ranges_in Try.underlying22 Try.underlying32 (by kernel_rfl) rfl rfl (by kernel_rfl) (by kernel_rfl) Try.underlying2 Try.underlying2 hf
  obtain ⟨a1, rfl, rfl, rfl, w1⟩ := open_int Try.underlying2 (hval 1 2 v1 rfl rfl) h1
  clear hA0 hval0
  refine (walk a0 len0 cap0 z0 a1 W w0 w1).mono fun e W' ⟨he, bel⟩ => ?_
  subst he
  exact ⟨_, rfl, _, _, _, [], _, [], hW', trodAll_mk1 (shut_bool Try.underlying4 _), (trodAll_cons_mk (Below.trod laidOut (by kernel_rfl) (of_decide_eq_true (by kernel_rfl)) k0 bel lt0) (trodAll_cons_mk (shut_int Try.underlying2 w1) trodAll_mk0)), rfl, bel.frame _, fun h => by cases h⟩

theorem over : Rows.setSizesRow.holds Try.pinned (OpenSpec.ofChange Rows.setSizesSpec) :=
  OpenClaim.holds_of_wide 8 Try.f8 rfl rfl rfl rfl rfl rfl rfl ⟨rfl, rfl, rfl, rfl, rfl⟩ rfl rfl rfl rfl rfl (by kernel_rfl) Try.func8 (by kernel_rfl)
    (of_decide_eq_true (by kernel_rfl)) (by unfold Func.isWrapper; first | (rw [if_pos (by decide +kernel)]; kernel_rfl) | (rw [if_neg (by decide +kernel)]; exact ⟨rfl, rfl⟩))
    (fun os started H enc _ => lifted os started H enc)

/-- THE STATEMENT -/
theorem proved : Rows.SetSizesSaid := over
#print axioms proved
end Go.Proofs.Ytdlbfpodgjkimaa.setSizes
