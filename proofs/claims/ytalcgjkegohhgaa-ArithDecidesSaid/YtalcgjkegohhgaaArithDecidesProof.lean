/-
  For all constraints and domains: the law ArithDecides returns true (where the first variables have one value each, the last one has one behind it, or it fails). No condition.
-/
import Derived.Test.YtalcgjkegohhgaaRows
import Derived.WalkKit
import Derived.ProofKit
import Derived.OpenShut
import Derived.ShutString
import Derived.ChangeOld
import Derived.Below
import Derived.Test.YtalcgjkegohhgaaQm
import Derived.Test.YtalcgjkegohhgaaQbv
import Derived.Test.YtalcgjkegohhgaaQbq
namespace Go.Proofs.Ytalcgjkegohhgaa.arithDecides
open Go.ChangeShapes Go.WideShapes Go.ChangeAt Go.RowKit
open Go.ChangeMaps (open_string shut_string)
open Go.Proofs.Ytalcgjkegohhgaa.Dig Go.Proofs.Ytalcgjkegohhgaa.Zs Go.Proofs.Ytalcgjkegohhgaa.Tr Go.Proofs.Ytalcgjkegohhgaa.Sn Go.Proofs.Ytalcgjkegohhgaa.Ln Go.Proofs.Ytalcgjkegohhgaa.At
open Go.Proofs.Ytalcgjkegohhgaa.Ti (Sl QR stR elR)
set_option linter.unusedVariables false

theorem own : ownKnob Try.prog.godebug = none := by kernel_rfl
theorem laidOut : laidOutB Try.prog = true := by kernel_rfl

/-- WHAT THE WALK IS TOLD OF A SLICE OF INTEGERS THAT CAME IN: it is nil; or it leads to a row of 'cap' cells, the numbers 'zs' (the first 'len' are its elements, the rest its spare room), each fitting its kind. -/
def IsRow (k : IntKind) (w : World) (a : Option Addr) (len cap : Nat) (zs : List Int) : Prop :=
  (a = none ∧ len = 0 ∧ cap = 0 ∧ zs = []) ∨
  ∃ x, a = some x ∧ len ≤ cap ∧ cap ≤ maxLen ∧ zs.length = cap ∧ (∀ i, i < zs.length → w.cell? (x.add i) = some (.int k (zs.getD i 0))) ∧ ∀ n ∈ zs, (Lit.int k n).wf = true

set_option maxRecDepth 100000 in
set_option maxHeartbeats 3000000 in
theorem walk (k0k : Int) (X0 : Option Addr) (n0 xc0 : Nat) (Y0 : Option Addr) (m0 yc0 : Nat) (e0 : Int) (z0 : Go.Proofs.Ytalcgjkegohhgaa.Sn.Cn) (a1 : Option Addr) (len1 cap1 : Nat) (z1 : Go.Proofs.Ytalcgjkegohhgaa.Tr.Ds) (w : World) (w0 : Go.Proofs.Ytalcgjkegohhgaa.Sn.ConIn w k0k X0 n0 xc0 Y0 m0 yc0 e0 z0) (w1 : Go.Proofs.Ytalcgjkegohhgaa.Tr.DomsIn w a1 len1 cap1 z1) :
    Calls Try.prog 11 #[.agg #[.int .i64 k0k, .slice X0 n0 xc0, .slice Y0 m0 yc0, .int .i64 e0], .slice a1 len1 cap1] w fun e w' => e = .returned (.bool true) ∧ Since w w' := by
  obtain ⟨hC, hBC, hcx, hca⟩ := w0
  obtain ⟨hl1, hD, hB1, hL1⟩ := w1
  subst hl1
  have AL := Lib.hid (fun W => Go.Proofs.Ytalcgjkegohhgaa.At.alive14_any W)
  have hbd : ∀ d ∈ z1, Bd d := fun d hd => (hB1 d hd).1
  have MI := Lib.hid (fun W (k : Since w W) => mine_any _ _ z0 z1 W (hC.since k) (hD.since stD k) hL1 (fun d hd => (hB1 d hd).2) hcx hca hbd)
  have S0 := Lib.hid (since_alloc w (.cells #[.int .i64 k0k, .slice X0 n0 xc0, .slice Y0 m0 yc0, .int .i64 e0] 58))
  have B0 := Lib.hid (Bx.fresh w #[.int .i64 k0k, .slice X0 n0 xc0, .slice Y0 m0 yc0, .int .i64 e0] 58)
  obtain ⟨f, hf⟩ : ∃ f, mineB z0 z1 = f := ⟨_, rfl⟩
  rw [hf] at MI
  cases f with
  | false =>
    clear hf hC hD hB1 hL1 hBC hcx hca hbd
    obtain ⟨b0, b1, b2, b3⟩ := bx4 B0.out
    go_enter Try.func11, Try.ntmps11
    go_wp2_with (first | (go_at_call 53; (with_reducible refine (AL.out _).mono ?_); rintro e w1 ⟨rfl, k1⟩; have U1 := Lib.hid k1; have T1 := Lib.hid (S0.out.trans k1); obtain ⟨b0, b1, b2, b3⟩ := bx4 (B0.out.since k1); clear k1) | (go_at_call 56; (with_reducible refine (MI.out _ T1.out).mono ?_); rintro e w3 ⟨rfl, k3⟩; have U3 := Lib.hid (U1.out.trans k3); have T3 := Lib.hid (T1.out.trans k3); obtain ⟨b0, b1, b2, b3⟩ := bx4 (B0.out.since U3.out); clear k3))
    go_ret
    exact ⟨rfl, T3.out⟩
  | true =>
  obtain ⟨hk, hsz, h100, hm⟩ := mine_parts hf
  clear hf
  obtain ⟨vx, vy, hh, hXX, -⟩ := id hC
  injection hh with hh
  simp at hh
  obtain ⟨hkq, hvx, -⟩ := hh
  rw [← hvx] at hXX
  have hkk : z0.k = k0k := hkq.symm
  clear hvx hkq
  obtain ⟨m1, m2, m3⟩ := mod_parts hm
  obtain ⟨hx, hx32, -⟩ := con_x m3
  have hxp : 2 ≤ z0.x.length := len_two m3 hk
  have NA := Lib.hid (fun W (k : Since w W) => arith_any _ _ z0 z1 W (hC.since k) (hD.since stD k) hsz)
  have PD := Lib.hid (fun E (hfix : ∀ y ∈ z0.x.take (z0.x.length - 1), lo (domAt z1 y) = hi (domAt z1 y)) (he : ariL z0.k z0.x z1 = some E) => ari_decides m1 m3 hk hfix he)
  have G1 := Lib.hid (fun E (he : ariL z0.k z0.x z1 = some E) => And.intro ((ari_ok m3 hk).ok _ _ m1 rfl he).1 ((ari_ok m3 hk).ok _ _ m1 rfl he).2.1)
  rw [ariO_is hm hk rfl] at NA
  generalize ariL z0.k z0.x z1 = R at *
  unfold RetNr at NA
  have HD := Lib.hid hD
  have HX := Lib.hid hXX
  have HG := Lib.hid m1
  have HIN := Lib.hid (fun k (hk : k < z0.x.length) => isV_at hx hk)
  obtain ⟨ny, hny⟩ : ∃ n, n = z0.x.length - 1 := ⟨_, rfl⟩
  have hnx : n0 = ny + 1 := by have := hXX.at_.1; omega
  obtain ⟨F, hFx, hFlt⟩ := isV_at hx (k := ny) (by omega)
  have hF : z0.x.getD (z0.x.length - 1) 0 = (F : Int) := by rw [← hny]; simp only [List.getD_eq_getElem?_getD, List.getElem?_eq_getElem (show ny < z0.x.length by omega), Option.getD_some]; exact hFx
  have hFl := Lib.hid (show F < z1.length from hFlt)
  have hny31 : ny ≤ 100 := by omega
  have hXF : z0.x[ny]? = some (F : Int) := by
    rw [List.getElem?_eq_getElem (by omega)]; exact congrArg some hFx
  have HXF := Lib.hid hXF
  rw [hF, ← hny] at PD
  subst hnx
  obtain ⟨n, hn⟩ : ∃ n, n = z1.length := ⟨_, rfl⟩
  rw [← hn] at HD MI NA HIN ⊢
  have HN := Lib.hid hn
  have HNY := Lib.hid (show z0.x.length = ny + 1 by omega)
  have hcap := hXX.capA
  have hcap2 : ny ≤ xc0 := by omega
  have hcap3 : ((ny : Nat) : Int) ≤ (xc0 : Int) := by omega
  have hwm : IntKind.i64.wrap (ny : Int) = (ny : Int) := by simp [IntKind.wrap, IntKind.bits, IntKind.signed]; omega
  have hmm : (ny : Int) < (ny : Int) + 1 := by omega
  clear hC hD hB1 hL1 hBC hcx hca hsz h100 hbd hm hkk hk m1 m2 m3 hx hx32 hxp hn hXX hcap hF hFx hFlt hXF hny
  obtain ⟨b0, b1, b2, b3⟩ := bx4 B0.out
  go_enter Try.func11, Try.ntmps11
  go_wp2_with (first | (go_at_call 53; (with_reducible refine (AL.out _).mono ?_); rintro e w1 ⟨rfl, k1⟩; have U1 := Lib.hid k1; have T1 := Lib.hid (S0.out.trans k1); obtain ⟨b0, b1, b2, b3⟩ := bx4 (B0.out.since k1); clear k1) | (go_at_call 56; (with_reducible refine (MI.out _ T1.out).mono ?_); rintro e w3 ⟨rfl, k3⟩; have U3 := Lib.hid (U1.out.trans k3); have T3 := Lib.hid (T1.out.trans k3); obtain ⟨b0, b1, b2, b3⟩ := bx4 (B0.out.since U3.out); clear k3))
  go_loopw [25] (fun i wr => ∃ (k : Nat), i = .int .i64 (k : Int) ∧ k ≤ ny ∧ Hid (∀ y ∈ z0.x.take k, lo (domAt z1 y) = hi (domAt z1 y)) ∧ Hid (Since w3 wr)) (fun i _ => ny - (intOf i).toNat)
  case atStart => exact ⟨0, rfl, Nat.zero_le _, Lib.hid (by simp), Lib.hid (Since.refl _)⟩
  case round =>
    obtain ⟨k, rfl, hk, HF, HW⟩ := hrel
    have TW := Lib.hid (T3.out.trans HW.out)
    obtain ⟨b0, b1, b2, b3⟩ := bx4 (B0.out.since (U3.out.trans HW.out))
    by_cases hkn : k < ny
    · have hkx : k < z0.x.length := by have := HNY.out; omega
      have hkn1 : k < ny + 1 := by omega
      obtain ⟨gx, ox, rfl, ex⟩ := elI (HX.out.since stI TW.out) hkx
      obtain ⟨j, hj, hjn⟩ := HIN.out k hkx
      have hjl : j < z1.length := by have := HN.out; omega
      obtain ⟨gd, od, B, cB, rfl, hS, ed⟩ := elD (HD.out.since stD TW.out) hjl
      have hgd := HG.out _ (List.getElem_mem hjl)
      have SN := Lib.hid (fun (h : lo z1[j] = hi z1[j]) => show ∀ y ∈ z0.x.take (k + 1), lo (domAt z1 y) = hi (domAt z1 y) by
        intro y hy
        rw [List.take_succ_eq_append_getElem hkx, List.mem_append] at hy
        rcases hy with hy | hy
        · exact HF.out y hy
        · rw [List.mem_singleton.1 hy, hj, domAt_lt (by exact hjl)]; exact h)
      rw [hj] at ex
      have FX := Lib.hid (fun W k => rfixed_any hS hgd.2 (right_len hgd.1) W k)
      generalize z1[j].length = dl at *
      generalize lo z1[j] = p at *
      generalize hi z1[j] = q at *
      clear hS hgd hjl hkx hj
      by_cases e : p = q
      · have SN2 := Lib.hid (SN.out e)
        have FX2 := FX
        rw [show (p == q) = true by rw [e]; exact beq_self_eq_true _] at FX2
        clear SN FX e
        go_wp2_with (go_at_call 57; (with_reducible refine (FX2.out _ (Since.refl _)).mono ?_); rintro e w4 ⟨rfl, k4, -⟩; have K4 := Lib.hid k4; clear k4)
        go_roundw
        case rel => exact ⟨k + 1, by go_num, by omega, SN2, Lib.hid (HW.out.trans K4.out)⟩
        case measure => simp [intOf]; omega
      · have FX2 := FX
        rw [show (p == q) = false from beq_eq_false_iff_ne.2 e] at FX2
        clear SN FX e
        go_wp2_with (go_at_call 57; (with_reducible refine (FX2.out _ (Since.refl _)).mono ?_); rintro e w4 ⟨rfl, k4, -⟩; have K4 := Lib.hid k4; clear k4)
        go_ret
        exact ⟨rfl, TW.out.trans K4.out⟩
    · obtain rfl : k = ny := by omega
      cases R with
      | none =>
        simp only [Option.isSome_none, Bool.false_eq_true, if_false] at NA
        go_wp2_with (go_at_call 54; (with_reducible refine (NA.out _ TW.out).mono ?_); rintro e w6 ⟨k6, rfl⟩; have T6 := Lib.hid (TW.out.trans k6); clear k6)
        go_ret
        exact ⟨rfl, T6.out⟩
      | some E =>
        simp only [Option.isSome_some, if_true] at NA
        obtain ⟨g1, g2⟩ := G1.out E rfl
        have hFE : F < E.length := by rw [g2.1]; exact hFl.out
        have hq := PD.out E HF.out rfl
        rw [domAt_lt (by exact hFE)] at hq
        have HQ := Lib.hid (show (lo E[F] == hi E[F]) = true by rw [show lo E[F] = hi E[F] from hq]; exact beq_self_eq_true _)
        have hgE := Lib.hid (g1 _ (List.getElem_mem hFE))
        have HFE := Lib.hid hFE
        have hFn : F < n := by have := hFl.out; have := HN.out; omega
        have HEL := Lib.hid (show E.length = n by have := g2.1; have := HN.out; omega)
        clear PD G1 g1 g2 hq
        go_wp2_with (first
          | (go_at_call 54; (with_reducible refine (NA.out _ TW.out).mono ?_); rintro e w6 ⟨k6, g, n2, rfl, hg1, hg2, hD6⟩; have hn2 : n = n2 := (by have h1 := hD6.len; have := HEL.out; omega); subst hn2; have T6 := Lib.hid (TW.out.trans k6); have D6 := Lib.hid hD6; obtain ⟨b0, b1, b2, b3⟩ := bx4 ((B0.out.since (U3.out.trans HW.out)).since k6); obtain ⟨gx, ox, hX0, ex⟩ := elI (HX.out.since stI T6.out) (i := k) (by have := HNY.out; omega); rw [show z0.x[k]'(by have := HNY.out; omega) = (F : Int) from (List.getElem?_eq_some_iff.1 HXF.out).2] at ex; subst hX0; obtain ⟨A6, c6, e6, s6⟩ := hD6.get HFE.out; have S6 := Lib.hid s6; clear k6 hg1 hg2 hD6 s6)
          | (go_at_call 57; have FXE := rfixed_any S6.out hgE.out.2 (right_len hgE.out.1) _ (Since.refl _); rw [HQ.out] at FXE; (with_reducible refine FXE.mono ?_); rintro e w7 ⟨rfl, k7, -⟩; have K7 := Lib.hid k7; clear k7 FXE))
        go_ret
        exact ⟨rfl, T6.out.trans K7.out⟩

set_option maxRecDepth 100000 in
theorem lifted (os : Os) (started : os.Started) (H : Type) (enc : TypeId × Value → H) :
    ReturnsInHanded {} Try.checked os 11 .any (Rows.arithDecidesSpec.pre6 enc Try.prog Try.f11 Rows.arithDecidesRow.domain false) (Rows.arithDecidesSpec.post enc Try.prog Try.f11 false true false false) := by
  refine returnsInHanded_of_change (C := Try.checked) own started (by kernel_rfl) Try.func11
    (ChangeSpec.witness6 (enc := enc) (C := Try.checked) false ⟨#[], #[.agg #[.int .i64 0, .slice none 0 0, .slice none 0 0, .int .i64 0], .slice none 0 0], []⟩ 8 (by kernel_rfl) (by kernel_rfl) (by kernel_rfl) (by kernel_rfl)) ?_
  intro W base args ds gs before hval0 hW hcnd _
  have hval : ∀ (j : Nat) t v, Try.f11.params[j]? = some t → args[j]? = some v → Value.okWide Try.prog W .any base t v := hval0
  have hW' := hW
  obtain ⟨p, q, hA0, hV, rfl, hfz, hnd⟩ := hW
  have hA : DataW.TrodAll enc Try.prog W 0 (fun _ => true) true Try.f11.params.toList args.toList ds p := hA0
  rw [Try.params11] at hA hval
  obtain ⟨v0, vs0, d0, ds0, p0, q0, hargs, rfl, rfl, h0, r0⟩ := trodAll_cons hA
  obtain ⟨v1, vs1, d1, ds1, p1, q1, rfl, rfl, rfl, h1, r1⟩ := trodAll_cons r0
  obtain ⟨rfl, rfl, rfl⟩ := trodAll_nil r1
  obtain rfl : args = #[v0, v1] := by cases args; simp_all
  obtain ⟨rfl, rfl⟩ := trodVars_none hV
  obtain ⟨k0k, X0, n0, xc0, Y0, m0, yc0, e0, rfl, z0, w0⟩ := Go.Proofs.Ytalcgjkegohhgaa.Sn.con_in ⟨Try.underlying58, ⟨rfl, rfl, rfl, rfl⟩, ⟨by kernel_rfl, by kernel_rfl, by kernel_rfl, by kernel_rfl⟩, Try.underlying3, Try.underlying44, Try.underlying56, Try.underlying2, Try.underlying3, by kernel_rfl, Try.underlying2, by kernel_rfl⟩ (by kernel_rfl) (hval 0 58 v0 rfl rfl) h0
  have k0 := h0
  have lt0 : ∀ x ∈ p0, x.block < W.heap.size := by obtain ⟨m, hm⟩ := k0; exact DataW.trod_lt m _ _ _ hm
  obtain ⟨a1, len1, cap1, rfl⟩ := okWide_slice Try.underlying22 (hval 1 22 v1 rfl rfl)
  have k1 := h1
  have lt1 : ∀ x ∈ p1, x.block < W.heap.size := by obtain ⟨m, hm⟩ := k1; exact DataW.trod_lt m _ _ _ hm
  obtain ⟨z1, w1⟩ : ∃ zs, Go.Proofs.Ytalcgjkegohhgaa.Tr.DomsIn W a1 len1 cap1 zs := by
    obtain ⟨fuel, hf⟩ := h1
    exact Go.Proofs.Ytalcgjkegohhgaa.Tr.doms_in Try.underlying22 (by kernel_rfl) Try.underlying33 Try.underlying78 (by kernel_rfl) rfl rfl (by kernel_rfl) (by kernel_rfl) Try.underlying2 Try.underlying2 hf
  clear hA0 hval0
  refine (walk k0k X0 n0 xc0 Y0 m0 yc0 e0 z0 a1 len1 cap1 z1 W w0 w1).mono fun e W' ⟨he, bel⟩ => ?_
  subst he
  exact ⟨_, rfl, _, _, _, [], _, [], hW', trodAll_mk1 (shut_bool Try.underlying4 _), (trodAll_cons_mk (Below.trod laidOut (by kernel_rfl) (of_decide_eq_true (by kernel_rfl)) k0 bel lt0) (trodAll_cons_mk (Below.trod laidOut (by kernel_rfl) (of_decide_eq_true (by kernel_rfl)) k1 bel lt1) trodAll_mk0)), rfl, bel.frame _, fun h => by cases h⟩

theorem over : Rows.arithDecidesRow.holds Try.pinned (OpenSpec.ofChange Rows.arithDecidesSpec) :=
  OpenClaim.holds_of_wide 11 Try.f11 rfl rfl rfl rfl rfl rfl rfl ⟨rfl, rfl, rfl, rfl, rfl⟩ rfl rfl rfl rfl rfl (by kernel_rfl) Try.func11 (by kernel_rfl)
    (of_decide_eq_true (by kernel_rfl)) (by unfold Func.isWrapper; first | (rw [if_pos (by decide +kernel)]; kernel_rfl) | (rw [if_neg (by decide +kernel)]; exact ⟨rfl, rfl⟩))
    (fun os started H enc _ => lifted os started H enc)

/-- THE STATEMENT -/
theorem proved : Rows.ArithDecidesSaid := over
#print axioms proved
end Go.Proofs.Ytalcgjkegohhgaa.arithDecides
