/-
  For all ranges a: the law SetCounts returns true (the values of a set, told one by one, each the next one, are as many as its size says, rise, and are in it). No condition.
-/
import Derived.Test.YtdlbfpodgjkimaaRows
import Derived.WalkKit
import Derived.ProofKit
import Derived.OpenShut
import Derived.ShutString
import Derived.ChangeOld
import Derived.Below
import Derived.Test.YtdlbfpodgjkimaaEy
namespace Go.Proofs.Ytdlbfpodgjkimaa.setCounts
open Go.ChangeShapes Go.WideShapes Go.ChangeAt Go.RowKit
open Go.ChangeMaps (open_string shut_string)
open Go.Proofs.Ytdlbfpodgjkimaa.Dig Go.Proofs.Ytdlbfpodgjkimaa.Zs
open Go.Proofs.Ytdlbfpodgjkimaa.Ti (Sl QR stR)
set_option linter.unusedVariables false

theorem own : ownKnob Try.prog.godebug = none := by kernel_rfl
theorem laidOut : laidOutB Try.prog = true := by kernel_rfl

/-- WHAT THE WALK IS TOLD OF A SLICE OF INTEGERS THAT CAME IN: it is nil; or it leads to a row of 'cap' cells, the numbers 'zs' (the first 'len' are its elements, the rest its spare room), each fitting its kind. -/
def IsRow (k : IntKind) (w : World) (a : Option Addr) (len cap : Nat) (zs : List Int) : Prop :=
  (a = none ∧ len = 0 ∧ cap = 0 ∧ zs = []) ∨
  ∃ x, a = some x ∧ len ≤ cap ∧ cap ≤ maxLen ∧ zs.length = cap ∧ (∀ i, i < zs.length → w.cell? (x.add i) = some (.int k (zs.getD i 0))) ∧ ∀ n ∈ zs, (Lit.int k n).wf = true

/-- where the count stands: at a value of the set, or behind all -/
def Cnt (l : List Rn) (S i x : Int) (b : Bool) : Prop := 0 ≤ i ∧ i ≤ S ∧ ((b = true ∧ has l x = true ∧ -1048576 ≤ x ∧ x ≤ 1048576 ∧ i + 1 + cntF l (x + 1) = S) ∨ (b = false ∧ i = S))
theorem Cnt.next {l : List Rn} {S i x : Int} (h : right l = true) (hi : 0 ≤ i) (hc : i + cntF l x = S) : Cnt l S i ((Zs.next l x).getD 0) (Zs.next l x).isSome := by
  have e : Zs.next l x = nextF l x := by rw [Zs.next, if_pos h]
  rw [e]
  cases hn : nextF l x with
  | none =>
    have := next_none h hn
    exact ⟨hi, by omega, .inr ⟨rfl, by omega⟩⟩
  | some y =>
    obtain ⟨h1, h2, h3, h4, h5⟩ := next_some h hn
    have := cntF_nonneg l (y + 1)
    exact ⟨hi, by omega, .inl ⟨rfl, has_iff.2 ⟨h, h4⟩, h2, h3, by show i + 1 + cntF l (y + 1) = S; omega⟩⟩
theorem next_gt {l : List Rn} {x y : Int} (h : right l = true) (hn : Zs.next l x = some y) : x ≤ y := by
  rw [Zs.next, if_pos h] at hn
  exact (next_some h hn).1

set_option maxHeartbeats 4000000 in
theorem walk (a0 : Option Addr) (len0 cap0 : Nat) (z0 : List Go.Proofs.Ytdlbfpodgjkimaa.Zs.Rn) (w : World) (w0 : Go.Proofs.Ytdlbfpodgjkimaa.Zs.RangesIn w a0 len0 cap0 z0) :
    Calls Try.prog 9 #[.slice a0 len0 cap0] w fun e w' => e = .returned (.bool true) ∧ Since w w' := by
  obtain ⟨hn0, hS, hB, -⟩ := w0
  subst hn0
  have AL := Lib.hid (alive_any w)
  by_cases hbig : z0.length > 300
  · clear hS hB
    go_enter Try.func9, Try.ntmps9
    go_wp2_with (go_at_call 10; (with_reducible refine AL.out.mono ?_); rintro e w1 ⟨rfl, k1⟩)
    go_ret
    exact ⟨rfl, k1⟩
  cases r0 : right z0 with
  | false =>
    have RA := Lib.hid (fun W k => right_at hS (by omega) hB r0 W k)
    clear hS hB r0
    go_enter Try.func9, Try.ntmps9
    go_wp2_with (first | (go_at_call 10; (with_reducible refine AL.out.mono ?_); rintro e w1 ⟨rfl, k1⟩) | (go_at_call 14; (with_reducible refine (RA.out _ k1).mono ?_); rintro e w2 ⟨rfl, k2⟩))
    go_ret
    exact ⟨rfl, k1.trans k2⟩
  | true =>
    have RA := Lib.hid (fun W k => right_at hS (by omega) hB r0 W k)
    obtain ⟨S, hSz⟩ : ∃ s, size z0 = s := ⟨_, rfl⟩
    have SN := Lib.hid (fun W (k : Since w W) => hSz ▸ size_any _ z0 W (hS.since stR k) (by omega) hB)
    by_cases hs : S > 2000
    · clear hS hB r0 hSz
      go_enter Try.func9, Try.ntmps9
      go_wp2_with (first | (go_at_call 10; (with_reducible refine AL.out.mono ?_); rintro e w1 ⟨rfl, k1⟩) | (go_at_call 14; (with_reducible refine (RA.out _ k1).mono ?_); rintro e w2 ⟨rfl, k2⟩) | (go_at_call 22; (with_reducible refine (SN.out _ (k1.trans k2)).mono ?_); rintro e w3 ⟨rfl, k3⟩; have K3 := (k1.trans k2).trans k3))
      go_ret
      exact ⟨rfl, (k1.trans k2).trans k3⟩
    · have hall : 0 + cntF z0 (-1048576) = S := by
        rw [cntF_all (b := -mx) r0 (Int.le_refl _), ← hSz, size, if_pos r0, Int.zero_add]
      have HC0 := Lib.hid (Cnt.next r0 (Int.le_refl _) hall)
      have HCN := Lib.hid (fun (i x : Int) (hi : 0 ≤ i) (h : i + cntF z0 x = S) => Cnt.next r0 hi h)
      have HGT := Lib.hid (fun (x y : Int) (h : Zs.next z0 x = some y) => next_gt r0 h)
      have NE := Lib.hid (fun (x : Int) (h1 : -1048576 ≤ x) (h2 : x ≤ 1048577) W (k : Since w W) => (next_any _ z0 x W (hS.since stR k) (by omega) hB (by simp only [Lx.fits]; omega)).mono fun e w' h => h.as rfl rfl)
      have HA := Lib.hid (fun (x : Int) (h1 : -1048576 ≤ x) (h2 : x ≤ 1048577) W (k : Since w W) => has_any _ z0 x W (hS.since stR k) (by omega) hB (by simp only [Lx.fits]; omega))
      clear hS hB r0 hSz hall
      obtain ⟨y0, hy0⟩ : ∃ y, (Zs.next z0 (-1048576)).getD 0 = y := ⟨_, rfl⟩
      obtain ⟨b0, hb0⟩ : ∃ y, (Zs.next z0 (-1048576)).isSome = y := ⟨_, rfl⟩
      have N0 := Lib.hid (fun W k => NE.out (-1048576) (by decide) (by decide) W k)
      rw [hy0, hb0] at HC0 N0
      clear hy0 hb0
      go_enter Try.func9, Try.ntmps9
      go_wp2_with (first
        | (go_at_call 10; (with_reducible refine AL.out.mono ?_); rintro e w1 ⟨rfl, k1⟩)
        | (go_at_call 14; (with_reducible refine (RA.out _ k1).mono ?_); rintro e w2 ⟨rfl, k2⟩)
        | (go_at_call 22; (with_reducible refine (SN.out _ (k1.trans k2)).mono ?_); rintro e w3 ⟨rfl, k3⟩; have K3 := (k1.trans k2).trans k3)
        | (go_at_call 18; (with_reducible refine (N0.out _ K3).mono ?_); rintro e w4 ⟨rfl, k4⟩; have K4 := K3.trans k4))
      go_loopw [3, 4, 5] (fun n v ok wr => ∃ (i x : Int) (b : Bool), n = .int .i64 i ∧ v = .int .i64 x ∧ ok = .bool b ∧ Hid (Cnt z0 S i x b) ∧ Hid (Since w wr)) (fun n _ _ _ => 2002 - (intOf n).toNat)
      case atStart => exact ⟨0, y0, b0, rfl, rfl, rfl, HC0.out, K4⟩
      case round =>
        obtain ⟨i, x, b, rfl, rfl, rfl, HC, HW⟩ := hrel
        clear HC0 N0
        obtain ⟨c1, c2, hc⟩ := HC.out
        rcases hc with ⟨rfl, hh, h1, h2, h3⟩ | ⟨rfl, h3⟩
        · have hi9 : i ≤ 1999 := by have := cntF_nonneg z0 (x + 1); omega
          have HX := Lib.hid (HA.out x (by omega) (by omega))
          rw [hh] at HX
          have HN := Lib.hid (HCN.out (i + 1) (x + 1) (by omega) h3)
          have HG := Lib.hid (fun y h => HGT.out (x + 1) y h)
          have NX := Lib.hid (NE.out (x + 1) (by omega) (by omega))
          clear HC HA HCN HGT NE hh h3 c2
          cases hr : Zs.next z0 (x + 1) with
          | none =>
            rw [hr] at HN NX
            simp only [Option.getD_none, Option.isSome_none] at HN NX
            clear HG hr
            go_wp2_with (first
              | (go_at_call 20; (with_reducible refine (HX.out _ HW.out).mono ?_); rintro e w5 ⟨rfl, k5⟩; have K5 := HW.out.trans k5)
              | (go_at_call 18; (with_reducible refine (NX.out _ K5).mono ?_); rintro e w6 ⟨rfl, k6⟩; have K6 := K5.trans k6))
            go_roundw
            case rel => exact ⟨i + 1, 0, false, by go_num, rfl, rfl, HN.out, K6⟩
            case measure => simp [intOf]; omega
          | some y =>
            have hy := HG.out y hr
            rw [hr] at HN NX
            simp only [Option.getD_some, Option.isSome_some] at HN NX
            have hle : ¬ y ≤ x := by omega
            clear HG hr
            go_wp2_with (first
              | (go_at_call 20; (with_reducible refine (HX.out _ HW.out).mono ?_); rintro e w5 ⟨rfl, k5⟩; have K5 := HW.out.trans k5)
              | (go_at_call 18; (with_reducible refine (NX.out _ K5).mono ?_); rintro e w6 ⟨rfl, k6⟩; have K6 := K5.trans k6))
            go_roundw
            case rel => exact ⟨i + 1, y, true, by go_num, rfl, rfl, HN.out, K6⟩
            case measure => simp [intOf]; omega
        · subst h3
          clear HC HCN HGT NE HA
          go_wp2_with (go_at_call 22; (with_reducible refine (SN.out _ HW.out).mono ?_); rintro e w5 ⟨rfl, k5⟩)
          go_ret
          exact ⟨by simp, HW.out.trans k5⟩

set_option maxRecDepth 100000 in
theorem lifted (os : Os) (started : os.Started) (H : Type) (enc : TypeId × Value → H) :
    ReturnsInHanded {} Try.checked os 9 .any (Rows.setCountsSpec.pre6 enc Try.prog Try.f9 Rows.setCountsRow.domain false) (Rows.setCountsSpec.post enc Try.prog Try.f9 false true false false) := by
  refine returnsInHanded_of_change (C := Try.checked) own started (by kernel_rfl) Try.func9
    (ChangeSpec.witness6 (enc := enc) (C := Try.checked) false ⟨#[], #[.slice none 0 0], []⟩ 8 (by kernel_rfl) (by kernel_rfl) (by kernel_rfl) (by kernel_rfl)) ?_
  intro W base args ds gs before hval0 hW hcnd _
  have hval : ∀ (j : Nat) t v, Try.f9.params[j]? = some t → args[j]? = some v → Value.okWide Try.prog W .any base t v := hval0
  have hW' := hW
  obtain ⟨p, q, hA0, hV, rfl, hfz, hnd⟩ := hW
  have hA : DataW.TrodAll enc Try.prog W 0 (fun _ => true) true Try.f9.params.toList args.toList ds p := hA0
  rw [Try.params9] at hA hval
  obtain ⟨v0, vs0, d0, ds0, p0, q0, hargs, rfl, rfl, h0, r0⟩ := trodAll_cons hA
  obtain ⟨rfl, rfl, rfl⟩ := trodAll_nil r0
  obtain rfl : args = #[v0] := by cases args; simp_all
  obtain ⟨rfl, rfl⟩ := trodVars_none hV
  obtain ⟨a0, len0, cap0, rfl⟩ := okWide_slice Try.underlying22 (hval 0 22 v0 rfl rfl)
  have k0 := h0
  have lt0 : ∀ x ∈ p0, x.block < W.heap.size := by obtain ⟨m, hm⟩ := k0; exact DataW.trod_lt m _ _ _ hm
  obtain ⟨z0, w0⟩ : ∃ zs, Go.Proofs.Ytdlbfpodgjkimaa.Zs.RangesIn W a0 len0 cap0 zs := by
    obtain ⟨fuel, hf⟩ := h0
    exact Go.Proofs.Ytdlbfpodgjkimaa.Zs.ranges_in Try.underlying22 Try.underlying32 (by kernel_rfl) rfl rfl (by kernel_rfl) (by kernel_rfl) Try.underlying2 Try.underlying2 hf
  clear hA0 hval0
  refine (walk a0 len0 cap0 z0 W w0).mono fun e W' ⟨he, bel⟩ => ?_
  subst he
  exact ⟨_, rfl, _, _, _, [], _, [], hW', trodAll_mk1 (shut_bool Try.underlying4 _), (trodAll_cons_mk (Below.trod laidOut (by kernel_rfl) (of_decide_eq_true (by kernel_rfl)) k0 bel lt0) trodAll_mk0), rfl, bel.frame _, fun h => by cases h⟩

theorem over : Rows.setCountsRow.holds Try.pinned (OpenSpec.ofChange Rows.setCountsSpec) :=
  OpenClaim.holds_of_wide 9 Try.f9 rfl rfl rfl rfl rfl rfl rfl ⟨rfl, rfl, rfl, rfl, rfl⟩ rfl rfl rfl rfl rfl (by kernel_rfl) Try.func9 (by kernel_rfl)
    (of_decide_eq_true (by kernel_rfl)) (by unfold Func.isWrapper; first | (rw [if_pos (by decide +kernel)]; kernel_rfl) | (rw [if_neg (by decide +kernel)]; exact ⟨rfl, rfl⟩))
    (fun os started H enc _ => lifted os started H enc)

/-- THE STATEMENT -/
theorem proved : Rows.SetCountsSaid := over
#print axioms proved
end Go.Proofs.Ytdlbfpodgjkimaa.setCounts
