/-
  For all slices of 32-bit numbers a, b and c: the law NatLaws returns true (for right digits, at most 40, sums and products hang on no order, and a product of a sum is the sum of the products) and leaves all as they were. No condition.
-/
import Derived.Test.YtkceldnljppflaaDoorRows
import Derived.Test.YtkceldnljppflaaDoorCards
import Derived.Test.YtkceldnljppflaaDoorTie
import Derived.LaidMore
import Derived.Lay
import Derived.SevenTiedAt
import Derived.WalkKit
import Derived.ProofKit
import Derived.OpenShut
import Derived.ShutString
import Derived.ChangeOld
import Derived.Below
import Derived.Test.YtkceldnljppflaaDoorLaw02
namespace Go.Proofs.YtkceldnljppflaaDoor.natLaws
open Go.ChangeShapes Go.WideShapes Go.ChangeAt Go.RowKit
open Go.ChangeMaps (open_string shut_string)
open Go.Proofs.YtkceldnljppflaaDoor.Dig
open Go.Proofs.YtkceldnljppflaaDoor.Law02
open Go.Proofs.YtkceldnljppflaaDoor.Ref02 (textD parseD)
set_option linter.unusedVariables false

theorem own : ownKnob Tryd.prog.godebug = none := by kernel_rfl
theorem laidOut : laidOutB Tryd.prog = true := by kernel_rfl

/-- WHAT THE WALK IS TOLD OF A SLICE OF INTEGERS THAT CAME IN: it is nil; or it leads to a row of 'cap' cells, the numbers 'zs' (the first 'len' are its elements, the rest its spare room), each fitting its kind. -/
def IsRow (k : IntKind) (w : World) (a : Option Addr) (len cap : Nat) (zs : List Int) : Prop :=
  (a = none ∧ len = 0 ∧ cap = 0 ∧ zs = []) ∨
  ∃ x, a = some x ∧ len ≤ cap ∧ cap ≤ maxLen ∧ zs.length = cap ∧ (∀ i, i < zs.length → w.cell? (x.add i) = some (.int k (zs.getD i 0))) ∧ ∀ n ∈ zs, (Lit.int k n).wf = true

set_option maxHeartbeats 2000000 in
theorem walk (a0 : Option Addr) (len0 cap0 : Nat) (z0 : List Int) (a1 : Option Addr) (len1 cap1 : Nat) (z1 : List Int) (a2 : Option Addr) (len2 cap2 : Nat) (z2 : List Int) (w : World) (w0 : IsRow .u32 w a0 len0 cap0 z0) (w1 : IsRow .u32 w a1 len1 cap1 z1) (w2 : IsRow .u32 w a2 len2 cap2 z2) :
    Calls Tryd.prog 8 #[.slice a0 len0 cap0, .slice a1 len1 cap1, .slice a2 len2 cap2] w fun e w' => e = .returned (.bool true) ∧ Since w w' := by
  obtain ⟨d0, hl0, hr0⟩ := row_in w0
  have R0 := Lib.hid hr0
  obtain ⟨d1, hl1, hr1⟩ := row_in w1
  have R1 := Lib.hid hr1
  obtain ⟨d2, hl2, hr2⟩ := row_in w2
  have R2 := Lib.hid hr2
  clear w0 hr0 w1 hr1 w2 hr2
  have hS := Since.refl w
  by_cases g0 : 40 < len0
  · go_enter Tryd.func8, Tryd.ntmps8
    go_wp2_with (first
      | (go_at_call 11; (with_reducible refine (Law02.alive _).mono ?_); rintro e v0 ⟨rfl, hv0⟩; have hS := hS.trans hv0)
      | (go_at_call 12; (with_reducible refine (Law02.few_no _ _ _ _ _ _ _ (by omega)).mono ?_); rintro e vf ⟨rfl, rfl⟩))
    go_ret
    exact ⟨rfl, hS⟩
  by_cases g1 : 40 < len1
  · go_enter Tryd.func8, Tryd.ntmps8
    go_wp2_with (first
      | (go_at_call 11; (with_reducible refine (Law02.alive _).mono ?_); rintro e v0 ⟨rfl, hv0⟩; have hS := hS.trans hv0)
      | (go_at_call 12; (with_reducible refine (Law02.few_no _ _ _ _ _ _ _ (by omega)).mono ?_); rintro e vf ⟨rfl, rfl⟩))
    go_ret
    exact ⟨rfl, hS⟩
  by_cases g2 : 40 < len2
  · go_enter Tryd.func8, Tryd.ntmps8
    go_wp2_with (first
      | (go_at_call 11; (with_reducible refine (Law02.alive _).mono ?_); rintro e v0 ⟨rfl, hv0⟩; have hS := hS.trans hv0)
      | (go_at_call 12; (with_reducible refine (Law02.few_yes _ _ _ _ _ _ _ (by omega) (by omega)).mono ?_); rintro e vf ⟨rfl, rfl⟩))
    go_ret
    exact ⟨rfl, hS⟩
  have L0 : d0.length ≤ 40 := by omega
  have LL0 := Lib.hid L0
  have M0 := Lib.hid (show d0.length ≤ 10000 by omega)
  have L1 : d1.length ≤ 40 := by omega
  have LL1 := Lib.hid L1
  have M1 := Lib.hid (show d1.length ≤ 10000 by omega)
  have L2 : d2.length ≤ 40 := by omega
  have LL2 := Lib.hid L2
  have M2 := Lib.hid (show d2.length ≤ 10000 by omega)
  clear hl0 L0 hl1 L1 hl2 L2
  by_cases q0 : rightB d0 = true
  case neg =>
    have q0' := Lib.hid (show rightB d0 = false by simpa using q0)
    clear q0
    go_enter Tryd.func8, Tryd.ntmps8
    go_wp2_with (first
      | (go_at_call 11; (with_reducible refine (Law02.alive _).mono ?_); rintro e v0 ⟨rfl, hv0⟩; have hS := hS.trans hv0)
      | (go_at_call 12; (with_reducible refine (Law02.few_yes _ _ _ _ _ _ _ (by omega) (by omega)).mono ?_); rintro e vf ⟨rfl, rfl⟩)
      | (go_at_call 17; (with_reducible refine (Law02.right_is (va := (.slice a0 len0 cap0)) (xs := d0) q0'.out (R0.out.since hS) M0.out).mono ?_); rintro e y0 ⟨rfl, t0⟩; have hS := hS.trans t0))
    go_ret
    exact ⟨rfl, hS⟩
  have Q0 := Lib.hid q0
  clear q0
  by_cases q1 : rightB d1 = true
  case neg =>
    have q1' := Lib.hid (show rightB d1 = false by simpa using q1)
    clear q1
    go_enter Tryd.func8, Tryd.ntmps8
    go_wp2_with (first
      | (go_at_call 11; (with_reducible refine (Law02.alive _).mono ?_); rintro e v0 ⟨rfl, hv0⟩; have hS := hS.trans hv0)
      | (go_at_call 12; (with_reducible refine (Law02.few_yes _ _ _ _ _ _ _ (by omega) (by omega)).mono ?_); rintro e vf ⟨rfl, rfl⟩)
      | (go_at_call 17; (with_reducible refine (Law02.right_is (va := (.slice a0 len0 cap0)) (xs := d0) Q0.out (R0.out.since hS) M0.out).mono ?_); rintro e y0 ⟨rfl, t0⟩; have hS := hS.trans t0)
      | (go_at_call 17; (with_reducible refine (Law02.right_is (va := (.slice a1 len1 cap1)) (xs := d1) q1'.out (R1.out.since hS) M1.out).mono ?_); rintro e y1 ⟨rfl, t1⟩; have hS := hS.trans t1))
    go_ret
    exact ⟨rfl, hS⟩
  have Q1 := Lib.hid q1
  clear q1
  by_cases q2 : rightB d2 = true
  case neg =>
    have q2' := Lib.hid (show rightB d2 = false by simpa using q2)
    clear q2
    go_enter Tryd.func8, Tryd.ntmps8
    go_wp2_with (first
      | (go_at_call 11; (with_reducible refine (Law02.alive _).mono ?_); rintro e v0 ⟨rfl, hv0⟩; have hS := hS.trans hv0)
      | (go_at_call 12; (with_reducible refine (Law02.few_yes _ _ _ _ _ _ _ (by omega) (by omega)).mono ?_); rintro e vf ⟨rfl, rfl⟩)
      | (go_at_call 17; (with_reducible refine (Law02.right_is (va := (.slice a0 len0 cap0)) (xs := d0) Q0.out (R0.out.since hS) M0.out).mono ?_); rintro e y0 ⟨rfl, t0⟩; have hS := hS.trans t0)
      | (go_at_call 17; (with_reducible refine (Law02.right_is (va := (.slice a1 len1 cap1)) (xs := d1) Q1.out (R1.out.since hS) M1.out).mono ?_); rintro e y1 ⟨rfl, t1⟩; have hS := hS.trans t1)
      | (go_at_call 17; (with_reducible refine (Law02.right_is (va := (.slice a2 len2 cap2)) (xs := d2) q2'.out (R2.out.since hS) M2.out).mono ?_); rintro e y2 ⟨rfl, t2⟩; have hS := hS.trans t2))
    go_ret
    exact ⟨rfl, hS⟩
  have Q2 := Lib.hid q2
  clear q2
  have n0 := num_lt_pow R0.out.dig LL0.out
  have n1 := num_lt_pow R1.out.dig LL1.out
  have n2 := num_lt_pow R2.out.dig LL2.out
  have s01 := pow_add_lt n0 n1
  have E1 := Lib.hid (add_fit Q0.out Q1.out s01 (by omega))
  have E2 := Lib.hid (show addD d1 d0 = (digs (num d0 + num d1), 0) by rw [Nat.add_comm (num d0)]; exact add_fit Q1.out Q0.out (by rw [Nat.add_comm]; exact s01) (by omega))
  have X1 := Lib.hid (right_digs s01 (by omega))
  have m1 := pow_mul_lt s01 n2
  have m2 := pow_mul_lt n0 n2
  have m3 := pow_mul_lt n2 n1
  have E3 := Lib.hid (show mulD (digs (num d0 + num d1)) d2 = (digs ((num d0 + num d1) * num d2), 0) by have := mul_fit X1.out Q2.out (by rw [num_digs]; exact m1) (by omega); rwa [num_digs] at this)
  have E4 := Lib.hid (mul_fit Q0.out Q2.out m2 (by omega))
  have E5 := Lib.hid (mul_fit Q2.out Q1.out m3 (by omega))
  have s2 := pow_add_lt m2 m3
  have E6 := Lib.hid (show addD (digs (num d0 * num d2)) (digs (num d2 * num d1)) = (digs ((num d0 + num d1) * num d2), 0) by
    have := add_fit (xs := digs (num d0 * num d2)) (ys := digs (num d2 * num d1)) (right_digs m2 (by omega)) (right_digs m3 (by omega)) (by rw [num_digs, num_digs]; exact s2) (by omega)
    rw [num_digs, num_digs] at this
    rw [this, Nat.add_mul, Nat.mul_comm (num d1)])
  have D1 := Lib.hid (Nat.le_trans (digs_len_le s01) (by omega : 40 + 1 ≤ 1000))
  have D2 := Lib.hid (Nat.le_trans (digs_len_le m1) (by omega : 40 + 1 + 40 ≤ 1000))
  have D3 := Lib.hid (Nat.le_trans (digs_len_le m2) (by omega : 40 + 40 ≤ 1000))
  have D4 := Lib.hid (Nat.le_trans (digs_len_le m3) (by omega : 40 + 40 ≤ 1000))
  clear n0 n1 n2 s01 m1 m2 m3 s2
  go_enter Tryd.func8, Tryd.ntmps8
  go_wp2_with (first
    | (go_at_call 11; (with_reducible refine (Law02.alive _).mono ?_); rintro e v0 ⟨rfl, hv0⟩; have hS := hS.trans hv0)
    | (go_at_call 12; (with_reducible refine (Law02.few_yes _ _ _ _ _ _ _ (by omega) (by omega)).mono ?_); rintro e vf ⟨rfl, rfl⟩)
    | (go_at_call 17; (with_reducible refine (Law02.right_is (va := (.slice a0 len0 cap0)) (xs := d0) Q0.out (R0.out.since hS) M0.out).mono ?_); rintro e y0 ⟨rfl, t0⟩; have hS := hS.trans t0)
    | (go_at_call 17; (with_reducible refine (Law02.right_is (va := (.slice a1 len1 cap1)) (xs := d1) Q1.out (R1.out.since hS) M1.out).mono ?_); rintro e y1 ⟨rfl, t1⟩; have hS := hS.trans t1)
    | (go_at_call 17; (with_reducible refine (Law02.right_is (va := (.slice a2 len2 cap2)) (xs := d2) Q2.out (R2.out.since hS) M2.out).mono ?_); rintro e y2 ⟨rfl, t2⟩; have hS := hS.trans t2)
    | (go_at_call 22; (with_reducible refine (Law02.add_is (va := (.slice a0 len0 cap0)) (vb := (.slice a1 len1 cap1)) E1.out (R0.out.since hS) (R1.out.since hS) M0.out M1.out).mono ?_); rintro e x1 ⟨v1, rfl, r1, s1⟩; have hS := hS.trans s1)
    | (go_at_call 22; (with_reducible refine (Law02.add_is (va := (.slice a1 len1 cap1)) (vb := (.slice a0 len0 cap0)) E2.out (R1.out.since hS) (R0.out.since hS) M1.out M0.out).mono ?_); rintro e x2 ⟨v2, rfl, r2, s2⟩; have hS := hS.trans s2; have r1 := r1.since s2)
    | (go_at_call 26; (with_reducible refine (Law02.mul_is (va := v1) (vb := (.slice a2 len2 cap2)) E3.out r1 (R2.out.since hS) (by have := D1.out; omega) M2.out).mono ?_); rintro e x3 ⟨v3, rfl, r3, s3⟩; have hS := hS.trans s3; have r1 := r1.since s3; have r2 := r2.since s3)
    | (go_at_call 26; (with_reducible refine (Law02.mul_is (va := (.slice a0 len0 cap0)) (vb := (.slice a2 len2 cap2)) E4.out (R0.out.since hS) (R2.out.since hS) M0.out M2.out).mono ?_); rintro e x4 ⟨v4, rfl, r4, s4⟩; have hS := hS.trans s4; have r1 := r1.since s4; have r2 := r2.since s4; have r3 := r3.since s4)
    | (go_at_call 26; (with_reducible refine (Law02.mul_is (va := (.slice a2 len2 cap2)) (vb := (.slice a1 len1 cap1)) E5.out (R2.out.since hS) (R1.out.since hS) M2.out M1.out).mono ?_); rintro e x5 ⟨v5, rfl, r5, s5⟩; have hS := hS.trans s5; have r1 := r1.since s5; have r2 := r2.since s5; have r3 := r3.since s5; have r4 := r4.since s5)
    | (go_at_call 22; (with_reducible refine (Law02.add_is (va := v4) (vb := v5) E6.out r4 r5 (by have := D3.out; omega) (by have := D4.out; omega)).mono ?_); rintro e x6 ⟨v6, rfl, r6, s6⟩; have hS := hS.trans s6; have r1 := r1.since s6; have r2 := r2.since s6; have r3 := r3.since s6)
    | (go_at_call 19; (with_reducible refine (Law02.same_wit v1 v2 _ _ r1 r2 D1.out).mono ?_); rintro e x7 ⟨rfl, s7⟩; have hS := hS.trans s7; have r3 := r3.since s7; have r6 := r6.since s7)
    | (go_at_call 19; (with_reducible refine (Law02.same_wit v3 v6 _ _ r3 r6 D2.out).mono ?_); rintro e x8 ⟨rfl, s8⟩; have hS := hS.trans s8))
  go_ret
  exact ⟨rfl, hS⟩

set_option maxRecDepth 100000 in
theorem lifted (os : Os) (started : os.Started) (H : Type) (enc : TypeId × Value → H) :
    ReturnsInHanded {} Tryd.checked os 8 .any (fun w args => (Rows.natLawsSpec.pre enc Tryd.prog Tryd.f8 Rows.natLawsRow.domain false w args ∧ laidMetH Tryd.prog Rows.natLawsRow.laid w) ∧ sizedMet enc Tryd.prog Tryd.f8 (OpenSpec.ofChange Rows.natLawsSpec) false w args) (Rows.natLawsSpec.post enc Tryd.prog Tryd.f8 false true false false) := by
  refine returnsInHanded_of_change_and (C := Tryd.checked) (X := fun w _ => laidMetH Tryd.prog Rows.natLawsRow.laid w) (fun _ _ _ hh h => h.of_heap hh) own started (by kernel_rfl) Tryd.func8
    (ChangeSpec.witness_shaped (enc := enc) (C := Tryd.checked) (os := os) (X := fun w _ => laidMetH Tryd.prog Rows.natLawsRow.laid w) false (World.laidAll Tryd.prog os Rows.natLawsRow.laid) #[.slice none 0 0, .slice none 0 0, .slice none 0 0] 8 (World.laidAll_os _ _ _)
      (World.shaped_of_ZipB (by kernel_rfl) (by kernel_rfl)) (by kernel_rfl) (by kernel_rfl) (by kernel_rfl)
      (by rw [MakeChecks.laidMetH_plain _ _ _ (by kernel_rfl)]; exact laidMet_laidAll _ (by kernel_rfl) (by kernel_rfl))) ?_
  intro W base args ds gs before hval0 hW hcnd _ _ _
  have hval : ∀ (j : Nat) t v, Tryd.f8.params[j]? = some t → args[j]? = some v → Value.okWide Tryd.prog W .any base t v := hval0
  have hW' := hW
  obtain ⟨p, q, hA0, hV, rfl, hfz, hnd⟩ := hW
  have hA : DataW.TrodAll enc Tryd.prog W 0 (fun _ => true) true Tryd.f8.params.toList args.toList ds p := hA0
  rw [Tryd.params8] at hA hval
  obtain ⟨v0, vs0, d0, ds0, p0, q0, hargs, rfl, rfl, h0, r0⟩ := trodAll_cons hA
  obtain ⟨v1, vs1, d1, ds1, p1, q1, rfl, rfl, rfl, h1, r1⟩ := trodAll_cons r0
  obtain ⟨v2, vs2, d2, ds2, p2, q2, rfl, rfl, rfl, h2, r2⟩ := trodAll_cons r1
  obtain ⟨rfl, rfl, rfl⟩ := trodAll_nil r2
  obtain rfl : args = #[v0, v1, v2] := by cases args; simp_all
  obtain ⟨rfl, rfl⟩ := trodVars_none hV
  obtain ⟨a0, len0, cap0, rfl⟩ := okWide_slice Tryd.underlying22 (hval 0 22 v0 rfl rfl)
  have k0 := h0
  have lt0 : ∀ x ∈ p0, x.block < W.heap.size := by obtain ⟨m, hm⟩ := k0; exact DataW.trod_lt m _ _ _ hm
  obtain ⟨z0, w0⟩ : ∃ zs, IsRow .u32 W a0 len0 cap0 zs := by
    obtain ⟨fuel, hf⟩ := h0
    rcases open_ints Tryd.underlying22 Tryd.underlying55 (by kernel_rfl) hf with ⟨hcs, _⟩ | ⟨x, l, c, zs, hcs, _, hl, hm, hz, _, hcell, hwz⟩
    · simp [Value.cells] at hcs
      obtain ⟨rfl, rfl, rfl⟩ := hcs
      exact ⟨[], .inl ⟨rfl, rfl, rfl, rfl⟩⟩
    · simp [Value.cells] at hcs
      obtain ⟨rfl, rfl, rfl⟩ := hcs
      exact ⟨zs, .inr ⟨_, rfl, hl, hm, by simpa using hz, hcell, hwz⟩⟩
  obtain ⟨a1, len1, cap1, rfl⟩ := okWide_slice Tryd.underlying22 (hval 1 22 v1 rfl rfl)
  have k1 := h1
  have lt1 : ∀ x ∈ p1, x.block < W.heap.size := by obtain ⟨m, hm⟩ := k1; exact DataW.trod_lt m _ _ _ hm
  obtain ⟨z1, w1⟩ : ∃ zs, IsRow .u32 W a1 len1 cap1 zs := by
    obtain ⟨fuel, hf⟩ := h1
    rcases open_ints Tryd.underlying22 Tryd.underlying55 (by kernel_rfl) hf with ⟨hcs, _⟩ | ⟨x, l, c, zs, hcs, _, hl, hm, hz, _, hcell, hwz⟩
    · simp [Value.cells] at hcs
      obtain ⟨rfl, rfl, rfl⟩ := hcs
      exact ⟨[], .inl ⟨rfl, rfl, rfl, rfl⟩⟩
    · simp [Value.cells] at hcs
      obtain ⟨rfl, rfl, rfl⟩ := hcs
      exact ⟨zs, .inr ⟨_, rfl, hl, hm, by simpa using hz, hcell, hwz⟩⟩
  obtain ⟨a2, len2, cap2, rfl⟩ := okWide_slice Tryd.underlying22 (hval 2 22 v2 rfl rfl)
  have k2 := h2
  have lt2 : ∀ x ∈ p2, x.block < W.heap.size := by obtain ⟨m, hm⟩ := k2; exact DataW.trod_lt m _ _ _ hm
  obtain ⟨z2, w2⟩ : ∃ zs, IsRow .u32 W a2 len2 cap2 zs := by
    obtain ⟨fuel, hf⟩ := h2
    rcases open_ints Tryd.underlying22 Tryd.underlying55 (by kernel_rfl) hf with ⟨hcs, _⟩ | ⟨x, l, c, zs, hcs, _, hl, hm, hz, _, hcell, hwz⟩
    · simp [Value.cells] at hcs
      obtain ⟨rfl, rfl, rfl⟩ := hcs
      exact ⟨[], .inl ⟨rfl, rfl, rfl, rfl⟩⟩
    · simp [Value.cells] at hcs
      obtain ⟨rfl, rfl, rfl⟩ := hcs
      exact ⟨zs, .inr ⟨_, rfl, hl, hm, by simpa using hz, hcell, hwz⟩⟩
  clear hA0 hval0
  refine (walk a0 len0 cap0 z0 a1 len1 cap1 z1 a2 len2 cap2 z2 W w0 w1 w2).mono fun e W' ⟨he, bel⟩ => ?_
  subst he
  exact ⟨_, rfl, _, _, _, [], _, [], hW', trodAll_mk1 (shut_bool Tryd.underlying4 _), (trodAll_cons_mk (Below.trod laidOut (by kernel_rfl) (of_decide_eq_true (by kernel_rfl)) k0 bel lt0) (trodAll_cons_mk (Below.trod laidOut (by kernel_rfl) (of_decide_eq_true (by kernel_rfl)) k1 bel lt1) (trodAll_cons_mk (Below.trod laidOut (by kernel_rfl) (of_decide_eq_true (by kernel_rfl)) k2 bel lt2) trodAll_mk0))), rfl, bel.frame _, fun h => by cases h⟩

theorem over : Rows.natLawsRow.holds Tryd.pinned (OpenSpec.ofChange Rows.natLawsSpec) :=
  OpenClaim.holds_of_wide 8 Tryd.f8 rfl rfl rfl rfl rfl rfl rfl ⟨rfl, rfl, rfl, rfl, rfl⟩ rfl rfl rfl rfl rfl (by kernel_rfl) Tryd.func8 (by kernel_rfl)
    (of_decide_eq_true (by kernel_rfl)) (by unfold Func.isWrapper; first | (rw [if_pos (by decide +kernel)]; kernel_rfl) | (rw [if_neg (by decide +kernel)]; exact ⟨rfl, rfl⟩))
    (fun os started H enc _ => lifted os started H enc)

/-- THE STATEMENT: the tied card -/
theorem proved : Rows.NatLawsCardSaid :=
  Claim7.holds_tied_plain_at .later [] _ _ _ _ over (fun _ h => by cases h) (by kernel_rfl) (fun _ h => by cases h) natLaws_row_tie rfl ⟨rfl, rfl⟩ (by kernel_rfl) rfl
    (fun f fn hf hfn => by
      obtain rfl : f = 8 := Option.some.inj ((show Tryd.prog.funcNamed "touchstone/touchstonelaw02.NatLaws" = some 8 by kernel_rfl).symm.trans hf) |>.symm
      obtain rfl : fn = Tryd.f8 := (Option.some.inj (Tryd.func8.symm.trans hfn)).symm
      exact ⟨by kernel_rfl, fun j t ht => by
        rw [Tryd.params8] at ht
        have hm : t ∈ [22, 22, 22] := by simpa using Array.mem_of_getElem? ht
        have hall : ([22, 22, 22].all fun u => !Tryd.prog.wantsStandIn u) = true := by kernel_rfl
        exact (show Tryd.prog.wantsStandIn t = false by simpa using List.all_eq_true.1 hall t hm)⟩)
    (by kernel_rfl)
#print axioms proved
end Go.Proofs.YtkceldnljppflaaDoor.natLaws
