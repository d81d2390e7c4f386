/-
  For all ranges d and all v: the law SetAsks returns true (what values they have, how many, which is the least, the greatest and the next one is told as the document says). No condition.
-/
import Derived.Test.YtdlbfpodgjkimaaRows
import Derived.WalkKit
import Derived.ProofKit
import Derived.OpenShut
import Derived.ShutString
import Derived.ChangeOld
import Derived.Below
import Derived.Test.YtdlbfpodgjkimaaEy
import Derived.Test.YtdlbfpodgjkimaaEk
import Derived.Test.YtdlbfpodgjkimaaEl
namespace Go.Proofs.Ytdlbfpodgjkimaa.setAsks
open Go.ChangeShapes Go.WideShapes Go.ChangeAt Go.RowKit
open Go.ChangeMaps (open_string shut_string)
open Go.Proofs.Ytdlbfpodgjkimaa.Dig Go.Proofs.Ytdlbfpodgjkimaa.Zs
open Go.Proofs.Ytdlbfpodgjkimaa.Ti (Sl QR stR)
set_option linter.unusedVariables false

theorem own : ownKnob Try.prog.godebug = none := by kernel_rfl
theorem laidOut : laidOutB Try.prog = true := by kernel_rfl

/-- WHAT THE WALK IS TOLD OF A SLICE OF INTEGERS THAT CAME IN: it is nil; or it leads to a row of 'cap' cells, the numbers 'zs' (the first 'len' are its elements, the rest its spare room), each fitting its kind. -/
def IsRow (k : IntKind) (w : World) (a : Option Addr) (len cap : Nat) (zs : List Int) : Prop :=
  (a = none ∧ len = 0 ∧ cap = 0 ∧ zs = []) ∨
  ∃ x, a = some x ∧ len ≤ cap ∧ cap ≤ maxLen ∧ zs.length = cap ∧ (∀ i, i < zs.length → w.cell? (x.add i) = some (.int k (zs.getD i 0))) ∧ ∀ n ∈ zs, (Lit.int k n).wf = true

set_option maxHeartbeats 2000000 in
theorem walk (a0 : Option Addr) (len0 cap0 : Nat) (z0 : List Go.Proofs.Ytdlbfpodgjkimaa.Zs.Rn) (a1 : Int) (w : World) (w0 : Go.Proofs.Ytdlbfpodgjkimaa.Zs.RangesIn w a0 len0 cap0 z0) (w1 : (Lit.int .i64 a1).wf = true) :
    Calls Try.prog 4 #[.slice a0 len0 cap0, .int .i64 a1] w fun e w' => e = .returned (.bool true) ∧ Since w w' := by
  obtain ⟨hn, hS, hB, hM⟩ := w0
  subst hn
  have AL := Lib.hid (alive_any w)
  have hx := wf_fits w1
  by_cases hbig : z0.length > 300
  · clear hS hB hM hx w1
    go_enter Try.func4, Try.ntmps4
    go_wp2_with (go_at_call 10; (with_reducible refine AL.out.mono ?_); rintro e w1 ⟨rfl, k1⟩)
    go_ret
    exact ⟨rfl, k1⟩
  · obtain ⟨⟨q0, q1⟩, hq⟩ : ∃ q, (ends z0).getD (0, 0) = q := ⟨_, rfl⟩
    obtain ⟨qb, hqb⟩ : ∃ b, (ends z0).isSome = b := ⟨_, rfl⟩
    obtain ⟨nx, hnx⟩ : ∃ q, (next z0 a1).getD 0 = q := ⟨_, rfl⟩
    obtain ⟨nb, hnb⟩ : ∃ b, (next z0 a1).isSome = b := ⟨_, rfl⟩
    obtain ⟨hb, hhb⟩ : ∃ b, has z0 a1 = b := ⟨_, rfl⟩
    obtain ⟨sz, hsz⟩ : ∃ b, size z0 = b := ⟨_, rfl⟩
    have EA := Lib.hid (fun W (k : Since w W) => (ends_any _ z0 W (hS.since stR k) (by omega) hB).mono fun e w' h => h.as hq hqb)
    have EB := Lib.hid (fun W (k : Since w W) => (rends_any _ z0 W (hS.since stR k) (by omega) hB).mono fun e w' h => h.as hq hqb)
    have NA := Lib.hid (fun W (k : Since w W) => (next_any _ z0 a1 W (hS.since stR k) (by omega) hB hx).mono fun e w' h => h.as hnx hnb)
    have NB := Lib.hid (fun W (k : Since w W) => (rnext_any _ z0 a1 W (hS.since stR k) (by omega) hB hx).mono fun e w' h => h.as hnx hnb)
    have HA := Lib.hid (fun W (k : Since w W) => has_any _ z0 a1 W (hS.since stR k) (by omega) hB hx)
    have HB := Lib.hid (fun W (k : Since w W) => rhas_any _ z0 a1 W (hS.since stR k) (by omega) hB)
    have SA := Lib.hid (fun W (k : Since w W) => size_any _ z0 W (hS.since stR k) (by omega) hB)
    have SB := Lib.hid (fun W (k : Since w W) => rsize_any _ z0 W (hS.since stR k) (by omega) hB)
    rw [hhb] at HA HB
    rw [hsz] at SA SB
    have BX := Lib.hid (fun W => Bx.fresh W #[.int .i64 q0, .int .i64 q1] 32)
    have BS := Lib.hid (fun W => since_alloc W (.cells #[.int .i64 q0, .int .i64 q1] 32))
    clear hS hB hM hx w1 hq hqb hnx hnb hhb hsz
    go_enter Try.func4, Try.ntmps4
    go_wp2_with (first
      | (go_at_call 10; (with_reducible refine AL.out.mono ?_); rintro e w1 ⟨rfl, k1⟩)
      | (go_at_call 16; (with_reducible refine (EA.out _ k1).mono ?_); rintro e w2 ⟨rfl, k2⟩; have b2 := BX.out w2; have k12 := (k1.trans k2).trans (BS.out w2); obtain ⟨u0, u1⟩ := b2.two)
      | (go_at_call 17; (with_reducible refine (EB.out _ k12).mono ?_); rintro e w3 ⟨rfl, k3⟩; have b3 := BX.out w3; have k33 := k3.trans (BS.out w3); have b23 := b2.since k33; have k13 := k12.trans k33; clear u0 u1)
      | (go_at_call 18; (with_reducible refine (NA.out _ k13).mono ?_); rintro e w4 ⟨rfl, k4⟩; have k14 := k13.trans k4)
      | (go_at_call 19; (with_reducible refine (NB.out _ k14).mono ?_); rintro e w5 ⟨rfl, k5⟩; have k15 := k14.trans k5)
      | (go_at_call 20; (with_reducible refine (HA.out _ k15).mono ?_); rintro e w6 ⟨rfl, k6⟩; have k16 := k15.trans k6)
      | (go_at_call 21; (with_reducible refine (HB.out _ k16).mono ?_); rintro e w7 ⟨rfl, k7⟩; have k17 := k16.trans k7)
      | (go_at_call 22; (with_reducible refine (SA.out _ k17).mono ?_); rintro e w8 ⟨rfl, k8⟩; have k18 := k17.trans k8)
      | (go_at_call 23; (with_reducible refine (SB.out _ k18).mono ?_); rintro e w9 ⟨rfl, k9⟩; have k19 := k18.trans k9; have kk := (((((k4.trans k5).trans k6).trans k7).trans k8).trans k9); obtain ⟨x0, x1⟩ := (b23.since kk).two; obtain ⟨y0, y1⟩ := (b3.since kk).two))
    go_ret
    exact ⟨by simp, k19⟩

set_option maxRecDepth 100000 in
theorem lifted (os : Os) (started : os.Started) (H : Type) (enc : TypeId × Value → H) :
    ReturnsInHanded {} Try.checked os 4 .any (Rows.setAsksSpec.pre6 enc Try.prog Try.f4 Rows.setAsksRow.domain false) (Rows.setAsksSpec.post enc Try.prog Try.f4 false true false false) := by
  refine returnsInHanded_of_change (C := Try.checked) own started (by kernel_rfl) Try.func4
    (ChangeSpec.witness6 (enc := enc) (C := Try.checked) false ⟨#[], #[.slice none 0 0, .int .i64 0], []⟩ 8 (by kernel_rfl) (by kernel_rfl) (by kernel_rfl) (by kernel_rfl)) ?_
  intro W base args ds gs before hval0 hW hcnd _
  have hval : ∀ (j : Nat) t v, Try.f4.params[j]? = some t → args[j]? = some v → Value.okWide Try.prog W .any base t v := hval0
  have hW' := hW
  obtain ⟨p, q, hA0, hV, rfl, hfz, hnd⟩ := hW
  have hA : DataW.TrodAll enc Try.prog W 0 (fun _ => true) true Try.f4.params.toList args.toList ds p := hA0
  rw [Try.params4] at hA hval
  obtain ⟨v0, vs0, d0, ds0, p0, q0, hargs, rfl, rfl, h0, r0⟩ := trodAll_cons hA
  obtain ⟨v1, vs1, d1, ds1, p1, q1, rfl, rfl, rfl, h1, r1⟩ := trodAll_cons r0
  obtain ⟨rfl, rfl, rfl⟩ := trodAll_nil r1
  obtain rfl : args = #[v0, v1] := by cases args; simp_all
  obtain ⟨rfl, rfl⟩ := trodVars_none hV
  obtain ⟨a0, len0, cap0, rfl⟩ := okWide_slice Try.underlying22 (hval 0 22 v0 rfl rfl)
  have k0 := h0
  have lt0 : ∀ x ∈ p0, x.block < W.heap.size := by obtain ⟨m, hm⟩ := k0; exact DataW.trod_lt m _ _ _ hm
  obtain ⟨z0, w0⟩ : ∃ zs, Go.Proofs.Ytdlbfpodgjkimaa.Zs.RangesIn W a0 len0 cap0 zs := by
    obtain ⟨fuel, hf⟩ := h0
    exact Go.Proofs.Ytdlbfpodgjkimaa.Zs.ranges_in Try.underlying22 Try.underlying32 (by kernel_rfl) rfl rfl (by kernel_rfl) (by kernel_rfl) Try.underlying2 Try.underlying2 hf
  obtain ⟨a1, rfl, rfl, rfl, w1⟩ := open_int Try.underlying2 (hval 1 2 v1 rfl rfl) h1
  clear hA0 hval0
  refine (walk a0 len0 cap0 z0 a1 W w0 w1).mono fun e W' ⟨he, bel⟩ => ?_
  subst he
  exact ⟨_, rfl, _, _, _, [], _, [], hW', trodAll_mk1 (shut_bool Try.underlying4 _), (trodAll_cons_mk (Below.trod laidOut (by kernel_rfl) (of_decide_eq_true (by kernel_rfl)) k0 bel lt0) (trodAll_cons_mk (shut_int Try.underlying2 w1) trodAll_mk0)), rfl, bel.frame _, fun h => by cases h⟩

theorem over : Rows.setAsksRow.holds Try.pinned (OpenSpec.ofChange Rows.setAsksSpec) :=
  OpenClaim.holds_of_wide 4 Try.f4 rfl rfl rfl rfl rfl rfl rfl ⟨rfl, rfl, rfl, rfl, rfl⟩ rfl rfl rfl rfl rfl (by kernel_rfl) Try.func4 (by kernel_rfl)
    (of_decide_eq_true (by kernel_rfl)) (by unfold Func.isWrapper; first | (rw [if_pos (by decide +kernel)]; kernel_rfl) | (rw [if_neg (by decide +kernel)]; exact ⟨rfl, rfl⟩))
    (fun os started H enc _ => lifted os started H enc)

/-- THE STATEMENT -/
theorem proved : Rows.SetAsksSaid := over
#print axioms proved
end Go.Proofs.Ytdlbfpodgjkimaa.setAsks
