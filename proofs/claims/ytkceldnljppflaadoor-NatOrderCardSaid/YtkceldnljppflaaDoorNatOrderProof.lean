/-
  For all slices of 32-bit numbers a and b: the law NatOrder returns true (of two numbers, at most 40 digits, one is less or both are one; the less is taken from the other; a sum is not less than its numbers) and leaves both as they were. No condition.
-/
import Derived.Test.YtkceldnljppflaaDoorRows
import Derived.Test.YtkceldnljppflaaDoorCards
import Derived.Test.YtkceldnljppflaaDoorTie
import Derived.LaidMore
import Derived.Lay
import Derived.SevenTiedAt
import Derived.WalkKit
import Derived.ProofKit
import Derived.OpenShut
import Derived.ShutString
import Derived.ChangeOld
import Derived.Below
import Derived.Test.YtkceldnljppflaaDoorLaw02
namespace Go.Proofs.YtkceldnljppflaaDoor.natOrder
open Go.ChangeShapes Go.WideShapes Go.ChangeAt Go.RowKit
open Go.ChangeMaps (open_string shut_string)
open Go.Proofs.YtkceldnljppflaaDoor.Dig
open Go.Proofs.YtkceldnljppflaaDoor.Law02
open Go.Proofs.YtkceldnljppflaaDoor.Ref02 (textD parseD)
set_option linter.unusedVariables false

theorem own : ownKnob Tryd.prog.godebug = none := by kernel_rfl
theorem laidOut : laidOutB Tryd.prog = true := by kernel_rfl

/-- WHAT THE WALK IS TOLD OF A SLICE OF INTEGERS THAT CAME IN: it is nil; or it leads to a row of 'cap' cells, the numbers 'zs' (the first 'len' are its elements, the rest its spare room), each fitting its kind. -/
def IsRow (k : IntKind) (w : World) (a : Option Addr) (len cap : Nat) (zs : List Int) : Prop :=
  (a = none ∧ len = 0 ∧ cap = 0 ∧ zs = []) ∨
  ∃ x, a = some x ∧ len ≤ cap ∧ cap ≤ maxLen ∧ zs.length = cap ∧ (∀ i, i < zs.length → w.cell? (x.add i) = some (.int k (zs.getD i 0))) ∧ ∀ n ∈ zs, (Lit.int k n).wf = true

set_option maxHeartbeats 2000000 in
theorem walk (a0 : Option Addr) (len0 cap0 : Nat) (z0 : List Int) (a1 : Option Addr) (len1 cap1 : Nat) (z1 : List Int) (w : World) (w0 : IsRow .u32 w a0 len0 cap0 z0) (w1 : IsRow .u32 w a1 len1 cap1 z1) :
    Calls Tryd.prog 10 #[.slice a0 len0 cap0, .slice a1 len1 cap1] w fun e w' => e = .returned (.bool true) ∧ Since w w' := by
  obtain ⟨d0, hl0, hr0⟩ := row_in w0
  have R0 := Lib.hid hr0
  obtain ⟨d1, hl1, hr1⟩ := row_in w1
  have R1 := Lib.hid hr1
  clear w0 hr0 w1 hr1
  have hS := Since.refl w
  by_cases g0 : 40 < len0
  · go_enter Tryd.func10, Tryd.ntmps10
    go_wp2_with (first
      | (go_at_call 11; (with_reducible refine (Law02.alive _).mono ?_); rintro e v0 ⟨rfl, hv0⟩; have hS := hS.trans hv0)
      | (go_at_call 12; (with_reducible refine (Law02.few_no _ _ _ _ _ _ _ (by omega)).mono ?_); rintro e vf ⟨rfl, rfl⟩))
    go_ret
    exact ⟨rfl, hS⟩
  by_cases g1 : 40 < len1
  · go_enter Tryd.func10, Tryd.ntmps10
    go_wp2_with (first
      | (go_at_call 11; (with_reducible refine (Law02.alive _).mono ?_); rintro e v0 ⟨rfl, hv0⟩; have hS := hS.trans hv0)
      | (go_at_call 12; (with_reducible refine (Law02.few_no _ _ _ _ _ _ _ (by omega)).mono ?_); rintro e vf ⟨rfl, rfl⟩))
    go_ret
    exact ⟨rfl, hS⟩
  have L0 : d0.length ≤ 40 := by omega
  have LL0 := Lib.hid L0
  have M0 := Lib.hid (show d0.length ≤ 10000 by omega)
  have L1 : d1.length ≤ 40 := by omega
  have LL1 := Lib.hid L1
  have M1 := Lib.hid (show d1.length ≤ 10000 by omega)
  clear hl0 L0 hl1 L1
  by_cases q0 : rightB d0 = true
  case neg =>
    have q0' := Lib.hid (show rightB d0 = false by simpa using q0)
    clear q0
    go_enter Tryd.func10, Tryd.ntmps10
    go_wp2_with (first
      | (go_at_call 11; (with_reducible refine (Law02.alive _).mono ?_); rintro e v0 ⟨rfl, hv0⟩; have hS := hS.trans hv0)
      | (go_at_call 12; (with_reducible refine (Law02.few_yes _ _ _ _ _ _ _ (by omega) (by omega)).mono ?_); rintro e vf ⟨rfl, rfl⟩)
      | (go_at_call 17; (with_reducible refine (Law02.right_is (va := (.slice a0 len0 cap0)) (xs := d0) q0'.out (R0.out.since hS) M0.out).mono ?_); rintro e y0 ⟨rfl, t0⟩; have hS := hS.trans t0))
    go_ret
    exact ⟨rfl, hS⟩
  have Q0 := Lib.hid q0
  clear q0
  by_cases q1 : rightB d1 = true
  case neg =>
    have q1' := Lib.hid (show rightB d1 = false by simpa using q1)
    clear q1
    go_enter Tryd.func10, Tryd.ntmps10
    go_wp2_with (first
      | (go_at_call 11; (with_reducible refine (Law02.alive _).mono ?_); rintro e v0 ⟨rfl, hv0⟩; have hS := hS.trans hv0)
      | (go_at_call 12; (with_reducible refine (Law02.few_yes _ _ _ _ _ _ _ (by omega) (by omega)).mono ?_); rintro e vf ⟨rfl, rfl⟩)
      | (go_at_call 17; (with_reducible refine (Law02.right_is (va := (.slice a0 len0 cap0)) (xs := d0) Q0.out (R0.out.since hS) M0.out).mono ?_); rintro e y0 ⟨rfl, t0⟩; have hS := hS.trans t0)
      | (go_at_call 17; (with_reducible refine (Law02.right_is (va := (.slice a1 len1 cap1)) (xs := d1) q1'.out (R1.out.since hS) M1.out).mono ?_); rintro e y1 ⟨rfl, t1⟩; have hS := hS.trans t1))
    go_ret
    exact ⟨rfl, hS⟩
  have Q1 := Lib.hid q1
  clear q1
  have n0 := num_lt_pow R0.out.dig LL0.out
  have n1 := num_lt_pow R1.out.dig LL1.out
  have s01 := pow_add_lt n0 n1
  have E1 := Lib.hid (add_fit Q0.out Q1.out s01 (by omega))
  have X1 := Lib.hid (right_digs s01 (by omega))
  have D1 := Lib.hid (Nat.le_trans (digs_len_le s01) (by omega : 40 + 1 ≤ 1000))
  obtain ⟨o, ho, EO⟩ : ∃ o : Int, 0 ≤ o ∧ Hid (cmpD (digs (num d0 + num d1)) d0 = (o, 0)) := by
    unfold cmpD
    rw [if_pos ⟨X1.out, Q0.out⟩, num_digs]
    by_cases h : num d1 = 0
    · exact ⟨0, by omega, by show _ = _; rw [if_neg (by omega), if_neg (by omega)]⟩
    · exact ⟨1, by omega, by show _ = _; rw [if_neg (by omega), if_pos (by omega)]⟩
  clear n0 n1 s01
  rcases Nat.lt_trichotomy (num d0) (num d1) with h | h | h
  · have E2 := Lib.hid (show cmpD d0 d1 = (-1, 0) by unfold cmpD; rw [if_pos ⟨Q0.out, Q1.out⟩]; rw [if_pos h])
    have E3 := Lib.hid (show cmpD d1 d0 = (1, 0) by unfold cmpD; rw [if_pos ⟨Q1.out, Q0.out⟩]; rw [if_neg (by omega), if_pos h])
    have E4 := Lib.hid (show sameB d0 d1 = false by rw [sameB, decide_eq_false]; rintro rfl; omega)
    obtain ⟨ds, E5⟩ : ∃ ds, Hid (subD d0 d1 = (ds, 2)) := ⟨_, by show _ = _; unfold subD; rw [if_neg (by omega)]⟩
    clear h
    go_enter Tryd.func10, Tryd.ntmps10
    go_wp2_with (first
      | (go_at_call 11; (with_reducible refine (Law02.alive _).mono ?_); rintro e v0 ⟨rfl, hv0⟩; have hS := hS.trans hv0)
      | (go_at_call 12; (with_reducible refine (Law02.few_yes _ _ _ _ _ _ _ (by omega) (by omega)).mono ?_); rintro e vf ⟨rfl, rfl⟩)
      | (go_at_call 17; (with_reducible refine (Law02.right_is (va := (.slice a0 len0 cap0)) (xs := d0) Q0.out (R0.out.since hS) M0.out).mono ?_); rintro e y0 ⟨rfl, t0⟩; have hS := hS.trans t0)
      | (go_at_call 17; (with_reducible refine (Law02.right_is (va := (.slice a1 len1 cap1)) (xs := d1) Q1.out (R1.out.since hS) M1.out).mono ?_); rintro e y1 ⟨rfl, t1⟩; have hS := hS.trans t1)
      | (go_at_call 15; (with_reducible refine (Law02.cmp_is (va := (.slice a0 len0 cap0)) (vb := (.slice a1 len1 cap1)) E2.out (R0.out.since hS) (R1.out.since hS) M0.out M1.out).mono ?_); rintro e x1 ⟨rfl, s1⟩; have hS := hS.trans s1)
      | (go_at_call 15; (with_reducible refine (Law02.cmp_is (va := (.slice a1 len1 cap1)) (vb := (.slice a0 len0 cap0)) E3.out (R1.out.since hS) (R0.out.since hS) M1.out M0.out).mono ?_); rintro e x2 ⟨rfl, s2⟩; have hS := hS.trans s2)
      | (go_at_call 24; (with_reducible refine (Law02.sub_is (va := (.slice a0 len0 cap0)) (vb := (.slice a1 len1 cap1)) E5.out (R0.out.since hS) (R1.out.since hS) M0.out M1.out).mono ?_); rintro e x3 ⟨v3, rfl, r3, s3⟩; have hS := hS.trans s3)
      | (go_at_call 22; (with_reducible refine (Law02.add_is (va := (.slice a0 len0 cap0)) (vb := (.slice a1 len1 cap1)) E1.out (R0.out.since hS) (R1.out.since hS) M0.out M1.out).mono ?_); rintro e x4 ⟨v4, rfl, r4, s4⟩; have hS := hS.trans s4)
      | (go_at_call 15; (with_reducible refine (Law02.cmp_is (va := v4) (vb := (.slice a0 len0 cap0)) EO.out r4 (R0.out.since hS) (by have := D1.out; omega) M0.out).mono ?_); rintro e x5 ⟨rfl, s5⟩; have hS := hS.trans s5)
      | (go_at_call 19; (with_reducible refine (Law02.same_is (va := (.slice a0 len0 cap0)) (vb := (.slice a1 len1 cap1)) E4.out (R0.out.since hS) (R1.out.since hS) M0.out M1.out).mono ?_); rintro e x6 ⟨rfl, s6⟩; have hS := hS.trans s6))
    go_ret
    exact ⟨rfl, hS⟩
  · have E2 := Lib.hid (show cmpD d0 d1 = (0, 0) by unfold cmpD; rw [if_pos ⟨Q0.out, Q1.out⟩]; rw [if_neg (by omega), if_neg (by omega)])
    have E3 := Lib.hid (show cmpD d1 d0 = (0, 0) by unfold cmpD; rw [if_pos ⟨Q1.out, Q0.out⟩]; rw [if_neg (by omega), if_neg (by omega)])
    have E4 := Lib.hid (show sameB d0 d1 = true by rw [sameB, decide_eq_true]; rw [← digs_self R0.out.dig Q0.out, ← digs_self R1.out.dig Q1.out, h])
    obtain ⟨ds, E5⟩ : ∃ ds, Hid (subD d0 d1 = (ds, 0)) := ⟨_, by show _ = _; unfold subD; rw [if_pos ⟨⟨Q0.out, Q1.out⟩, by omega⟩]⟩
    clear h
    go_enter Tryd.func10, Tryd.ntmps10
    go_wp2_with (first
      | (go_at_call 11; (with_reducible refine (Law02.alive _).mono ?_); rintro e v0 ⟨rfl, hv0⟩; have hS := hS.trans hv0)
      | (go_at_call 12; (with_reducible refine (Law02.few_yes _ _ _ _ _ _ _ (by omega) (by omega)).mono ?_); rintro e vf ⟨rfl, rfl⟩)
      | (go_at_call 17; (with_reducible refine (Law02.right_is (va := (.slice a0 len0 cap0)) (xs := d0) Q0.out (R0.out.since hS) M0.out).mono ?_); rintro e y0 ⟨rfl, t0⟩; have hS := hS.trans t0)
      | (go_at_call 17; (with_reducible refine (Law02.right_is (va := (.slice a1 len1 cap1)) (xs := d1) Q1.out (R1.out.since hS) M1.out).mono ?_); rintro e y1 ⟨rfl, t1⟩; have hS := hS.trans t1)
      | (go_at_call 15; (with_reducible refine (Law02.cmp_is (va := (.slice a0 len0 cap0)) (vb := (.slice a1 len1 cap1)) E2.out (R0.out.since hS) (R1.out.since hS) M0.out M1.out).mono ?_); rintro e x1 ⟨rfl, s1⟩; have hS := hS.trans s1)
      | (go_at_call 15; (with_reducible refine (Law02.cmp_is (va := (.slice a1 len1 cap1)) (vb := (.slice a0 len0 cap0)) E3.out (R1.out.since hS) (R0.out.since hS) M1.out M0.out).mono ?_); rintro e x2 ⟨rfl, s2⟩; have hS := hS.trans s2)
      | (go_at_call 24; (with_reducible refine (Law02.sub_is (va := (.slice a0 len0 cap0)) (vb := (.slice a1 len1 cap1)) E5.out (R0.out.since hS) (R1.out.since hS) M0.out M1.out).mono ?_); rintro e x3 ⟨v3, rfl, r3, s3⟩; have hS := hS.trans s3)
      | (go_at_call 22; (with_reducible refine (Law02.add_is (va := (.slice a0 len0 cap0)) (vb := (.slice a1 len1 cap1)) E1.out (R0.out.since hS) (R1.out.since hS) M0.out M1.out).mono ?_); rintro e x4 ⟨v4, rfl, r4, s4⟩; have hS := hS.trans s4)
      | (go_at_call 15; (with_reducible refine (Law02.cmp_is (va := v4) (vb := (.slice a0 len0 cap0)) EO.out r4 (R0.out.since hS) (by have := D1.out; omega) M0.out).mono ?_); rintro e x5 ⟨rfl, s5⟩; have hS := hS.trans s5)
      | (go_at_call 19; (with_reducible refine (Law02.same_is (va := (.slice a0 len0 cap0)) (vb := (.slice a1 len1 cap1)) E4.out (R0.out.since hS) (R1.out.since hS) M0.out M1.out).mono ?_); rintro e x6 ⟨rfl, s6⟩; have hS := hS.trans s6))
    go_ret
    exact ⟨rfl, hS⟩
  · have E2 := Lib.hid (show cmpD d0 d1 = (1, 0) by unfold cmpD; rw [if_pos ⟨Q0.out, Q1.out⟩]; rw [if_neg (by omega), if_pos h])
    have E3 := Lib.hid (show cmpD d1 d0 = (-1, 0) by unfold cmpD; rw [if_pos ⟨Q1.out, Q0.out⟩]; rw [if_pos h])
    have E4 := Lib.hid (show sameB d0 d1 = false by rw [sameB, decide_eq_false]; rintro rfl; omega)
    obtain ⟨ds, E5⟩ : ∃ ds, Hid (subD d0 d1 = (ds, 0)) := ⟨_, by show _ = _; unfold subD; rw [if_pos ⟨⟨Q0.out, Q1.out⟩, by omega⟩]⟩
    clear h
    go_enter Tryd.func10, Tryd.ntmps10
    go_wp2_with (first
      | (go_at_call 11; (with_reducible refine (Law02.alive _).mono ?_); rintro e v0 ⟨rfl, hv0⟩; have hS := hS.trans hv0)
      | (go_at_call 12; (with_reducible refine (Law02.few_yes _ _ _ _ _ _ _ (by omega) (by omega)).mono ?_); rintro e vf ⟨rfl, rfl⟩)
      | (go_at_call 17; (with_reducible refine (Law02.right_is (va := (.slice a0 len0 cap0)) (xs := d0) Q0.out (R0.out.since hS) M0.out).mono ?_); rintro e y0 ⟨rfl, t0⟩; have hS := hS.trans t0)
      | (go_at_call 17; (with_reducible refine (Law02.right_is (va := (.slice a1 len1 cap1)) (xs := d1) Q1.out (R1.out.since hS) M1.out).mono ?_); rintro e y1 ⟨rfl, t1⟩; have hS := hS.trans t1)
      | (go_at_call 15; (with_reducible refine (Law02.cmp_is (va := (.slice a0 len0 cap0)) (vb := (.slice a1 len1 cap1)) E2.out (R0.out.since hS) (R1.out.since hS) M0.out M1.out).mono ?_); rintro e x1 ⟨rfl, s1⟩; have hS := hS.trans s1)
      | (go_at_call 15; (with_reducible refine (Law02.cmp_is (va := (.slice a1 len1 cap1)) (vb := (.slice a0 len0 cap0)) E3.out (R1.out.since hS) (R0.out.since hS) M1.out M0.out).mono ?_); rintro e x2 ⟨rfl, s2⟩; have hS := hS.trans s2)
      | (go_at_call 24; (with_reducible refine (Law02.sub_is (va := (.slice a0 len0 cap0)) (vb := (.slice a1 len1 cap1)) E5.out (R0.out.since hS) (R1.out.since hS) M0.out M1.out).mono ?_); rintro e x3 ⟨v3, rfl, r3, s3⟩; have hS := hS.trans s3)
      | (go_at_call 22; (with_reducible refine (Law02.add_is (va := (.slice a0 len0 cap0)) (vb := (.slice a1 len1 cap1)) E1.out (R0.out.since hS) (R1.out.since hS) M0.out M1.out).mono ?_); rintro e x4 ⟨v4, rfl, r4, s4⟩; have hS := hS.trans s4)
      | (go_at_call 15; (with_reducible refine (Law02.cmp_is (va := v4) (vb := (.slice a0 len0 cap0)) EO.out r4 (R0.out.since hS) (by have := D1.out; omega) M0.out).mono ?_); rintro e x5 ⟨rfl, s5⟩; have hS := hS.trans s5)
      | (go_at_call 19; (with_reducible refine (Law02.same_is (va := (.slice a0 len0 cap0)) (vb := (.slice a1 len1 cap1)) E4.out (R0.out.since hS) (R1.out.since hS) M0.out M1.out).mono ?_); rintro e x6 ⟨rfl, s6⟩; have hS := hS.trans s6))
    go_ret
    exact ⟨rfl, hS⟩

set_option maxRecDepth 100000 in
theorem lifted (os : Os) (started : os.Started) (H : Type) (enc : TypeId × Value → H) :
    ReturnsInHanded {} Tryd.checked os 10 .any (fun w args => (Rows.natOrderSpec.pre enc Tryd.prog Tryd.f10 Rows.natOrderRow.domain false w args ∧ laidMetH Tryd.prog Rows.natOrderRow.laid w) ∧ sizedMet enc Tryd.prog Tryd.f10 (OpenSpec.ofChange Rows.natOrderSpec) false w args) (Rows.natOrderSpec.post enc Tryd.prog Tryd.f10 false true false false) := by
  refine returnsInHanded_of_change_and (C := Tryd.checked) (X := fun w _ => laidMetH Tryd.prog Rows.natOrderRow.laid w) (fun _ _ _ hh h => h.of_heap hh) own started (by kernel_rfl) Tryd.func10
    (ChangeSpec.witness_shaped (enc := enc) (C := Tryd.checked) (os := os) (X := fun w _ => laidMetH Tryd.prog Rows.natOrderRow.laid w) false (World.laidAll Tryd.prog os Rows.natOrderRow.laid) #[.slice none 0 0, .slice none 0 0] 8 (World.laidAll_os _ _ _)
      (World.shaped_of_ZipB (by kernel_rfl) (by kernel_rfl)) (by kernel_rfl) (by kernel_rfl) (by kernel_rfl)
      (by rw [MakeChecks.laidMetH_plain _ _ _ (by kernel_rfl)]; exact laidMet_laidAll _ (by kernel_rfl) (by kernel_rfl))) ?_
  intro W base args ds gs before hval0 hW hcnd _ _ _
  have hval : ∀ (j : Nat) t v, Tryd.f10.params[j]? = some t → args[j]? = some v → Value.okWide Tryd.prog W .any base t v := hval0
  have hW' := hW
  obtain ⟨p, q, hA0, hV, rfl, hfz, hnd⟩ := hW
  have hA : DataW.TrodAll enc Tryd.prog W 0 (fun _ => true) true Tryd.f10.params.toList args.toList ds p := hA0
  rw [Tryd.params10] at hA hval
  obtain ⟨v0, vs0, d0, ds0, p0, q0, hargs, rfl, rfl, h0, r0⟩ := trodAll_cons hA
  obtain ⟨v1, vs1, d1, ds1, p1, q1, rfl, rfl, rfl, h1, r1⟩ := trodAll_cons r0
  obtain ⟨rfl, rfl, rfl⟩ := trodAll_nil r1
  obtain rfl : args = #[v0, v1] := by cases args; simp_all
  obtain ⟨rfl, rfl⟩ := trodVars_none hV
  obtain ⟨a0, len0, cap0, rfl⟩ := okWide_slice Tryd.underlying22 (hval 0 22 v0 rfl rfl)
  have k0 := h0
  have lt0 : ∀ x ∈ p0, x.block < W.heap.size := by obtain ⟨m, hm⟩ := k0; exact DataW.trod_lt m _ _ _ hm
  obtain ⟨z0, w0⟩ : ∃ zs, IsRow .u32 W a0 len0 cap0 zs := by
    obtain ⟨fuel, hf⟩ := h0
    rcases open_ints Tryd.underlying22 Tryd.underlying55 (by kernel_rfl) hf with ⟨hcs, _⟩ | ⟨x, l, c, zs, hcs, _, hl, hm, hz, _, hcell, hwz⟩
    · simp [Value.cells] at hcs
      obtain ⟨rfl, rfl, rfl⟩ := hcs
      exact ⟨[], .inl ⟨rfl, rfl, rfl, rfl⟩⟩
    · simp [Value.cells] at hcs
      obtain ⟨rfl, rfl, rfl⟩ := hcs
      exact ⟨zs, .inr ⟨_, rfl, hl, hm, by simpa using hz, hcell, hwz⟩⟩
  obtain ⟨a1, len1, cap1, rfl⟩ := okWide_slice Tryd.underlying22 (hval 1 22 v1 rfl rfl)
  have k1 := h1
  have lt1 : ∀ x ∈ p1, x.block < W.heap.size := by obtain ⟨m, hm⟩ := k1; exact DataW.trod_lt m _ _ _ hm
  obtain ⟨z1, w1⟩ : ∃ zs, IsRow .u32 W a1 len1 cap1 zs := by
    obtain ⟨fuel, hf⟩ := h1
    rcases open_ints Tryd.underlying22 Tryd.underlying55 (by kernel_rfl) hf with ⟨hcs, _⟩ | ⟨x, l, c, zs, hcs, _, hl, hm, hz, _, hcell, hwz⟩
    · simp [Value.cells] at hcs
      obtain ⟨rfl, rfl, rfl⟩ := hcs
      exact ⟨[], .inl ⟨rfl, rfl, rfl, rfl⟩⟩
    · simp [Value.cells] at hcs
      obtain ⟨rfl, rfl, rfl⟩ := hcs
      exact ⟨zs, .inr ⟨_, rfl, hl, hm, by simpa using hz, hcell, hwz⟩⟩
  clear hA0 hval0
  refine (walk a0 len0 cap0 z0 a1 len1 cap1 z1 W w0 w1).mono fun e W' ⟨he, bel⟩ => ?_
  subst he
  exact ⟨_, rfl, _, _, _, [], _, [], hW', trodAll_mk1 (shut_bool Tryd.underlying4 _), (trodAll_cons_mk (Below.trod laidOut (by kernel_rfl) (of_decide_eq_true (by kernel_rfl)) k0 bel lt0) (trodAll_cons_mk (Below.trod laidOut (by kernel_rfl) (of_decide_eq_true (by kernel_rfl)) k1 bel lt1) trodAll_mk0)), rfl, bel.frame _, fun h => by cases h⟩

theorem over : Rows.natOrderRow.holds Tryd.pinned (OpenSpec.ofChange Rows.natOrderSpec) :=
  OpenClaim.holds_of_wide 10 Tryd.f10 rfl rfl rfl rfl rfl rfl rfl ⟨rfl, rfl, rfl, rfl, rfl⟩ rfl rfl rfl rfl rfl (by kernel_rfl) Tryd.func10 (by kernel_rfl)
    (of_decide_eq_true (by kernel_rfl)) (by unfold Func.isWrapper; first | (rw [if_pos (by decide +kernel)]; kernel_rfl) | (rw [if_neg (by decide +kernel)]; exact ⟨rfl, rfl⟩))
    (fun os started H enc _ => lifted os started H enc)

/-- THE STATEMENT: the tied card -/
theorem proved : Rows.NatOrderCardSaid :=
  Claim7.holds_tied_plain_at .later [] _ _ _ _ over (fun _ h => by cases h) (by kernel_rfl) (fun _ h => by cases h) natOrder_row_tie rfl ⟨rfl, rfl⟩ (by kernel_rfl) rfl
    (fun f fn hf hfn => by
      obtain rfl : f = 10 := Option.some.inj ((show Tryd.prog.funcNamed "touchstone/touchstonelaw02.NatOrder" = some 10 by kernel_rfl).symm.trans hf) |>.symm
      obtain rfl : fn = Tryd.f10 := (Option.some.inj (Tryd.func10.symm.trans hfn)).symm
      exact ⟨by kernel_rfl, fun j t ht => by
        rw [Tryd.params10] at ht
        have hm : t ∈ [22, 22] := by simpa using Array.mem_of_getElem? ht
        have hall : ([22, 22].all fun u => !Tryd.prog.wantsStandIn u) = true := by kernel_rfl
        exact (show Tryd.prog.wantsStandIn t = false by simpa using List.all_eq_true.1 hall t hm)⟩)
    (by kernel_rfl)
#print axioms proved
end Go.Proofs.YtkceldnljppflaaDoor.natOrder
