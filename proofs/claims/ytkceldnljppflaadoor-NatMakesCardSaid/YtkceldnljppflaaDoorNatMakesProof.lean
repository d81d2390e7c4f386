/-
  For all slices of 32-bit numbers a and b and every 64-bit number u: the law NatMakes returns true (Right, Of, Uint and Cmp answer as the document does, where neither slice has more than 40 digits) and leaves both as they were. No condition.
-/
import Derived.Test.YtkceldnljppflaaDoorRows
import Derived.Test.YtkceldnljppflaaDoorCards
import Derived.Test.YtkceldnljppflaaDoorTie
import Derived.LaidMore
import Derived.Lay
import Derived.SevenTiedAt
import Derived.WalkKit
import Derived.ProofKit
import Derived.OpenShut
import Derived.ShutString
import Derived.ChangeOld
import Derived.Below
import Derived.Test.YtkceldnljppflaaDoorAlive02
namespace Go.Proofs.YtkceldnljppflaaDoor.natMakes
open Go.ChangeShapes Go.WideShapes Go.ChangeAt Go.RowKit
open Go.ChangeMaps (open_string shut_string)
open Go.Proofs.YtkceldnljppflaaDoor.Dig
open Go.Proofs.YtkceldnljppflaaDoor.Law02
open Go.Proofs.YtkceldnljppflaaDoor.Ref02 (textD parseD)
set_option linter.unusedVariables false

theorem own : ownKnob Tryd.prog.godebug = none := by kernel_rfl
theorem laidOut : laidOutB Tryd.prog = true := by kernel_rfl

/-- WHAT THE WALK IS TOLD OF A SLICE OF INTEGERS THAT CAME IN: it is nil; or it leads to a row of 'cap' cells, the numbers 'zs' (the first 'len' are its elements, the rest its spare room), each fitting its kind. -/
def IsRow (k : IntKind) (w : World) (a : Option Addr) (len cap : Nat) (zs : List Int) : Prop :=
  (a = none ∧ len = 0 ∧ cap = 0 ∧ zs = []) ∨
  ∃ x, a = some x ∧ len ≤ cap ∧ cap ≤ maxLen ∧ zs.length = cap ∧ (∀ i, i < zs.length → w.cell? (x.add i) = some (.int k (zs.getD i 0))) ∧ ∀ n ∈ zs, (Lit.int k n).wf = true

theorem walk (a0 : Option Addr) (len0 cap0 : Nat) (z0 : List Int) (a1 : Option Addr) (len1 cap1 : Nat) (z1 : List Int) (a2 : Int) (w : World) (w0 : IsRow .u32 w a0 len0 cap0 z0) (w1 : IsRow .u32 w a1 len1 cap1 z1) (w2 : (Lit.int .u64 a2).wf = true) :
    Calls Tryd.prog 3 #[.slice a0 len0 cap0, .slice a1 len1 cap1, .int .u64 a2] w fun e w' => e = .returned (.bool true) ∧ Since w w' := by
  obtain ⟨d0, hl0, hr0⟩ := row_in w0
  have R0 := Lib.hid hr0
  obtain ⟨d1, hl1, hr1⟩ := row_in w1
  have R1 := Lib.hid hr1
  clear w0 hr0 w1 hr1
  have fu := bounds_u64 w2
  obtain ⟨u, rfl⟩ : ∃ u : Nat, a2 = (u : Int) := ⟨a2.toNat, by omega⟩
  have U := Lib.hid (show u < 18446744073709551616 by omega)
  clear w2 fu
  have hS := Since.refl w
  by_cases g0 : 40 < len0
  · go_enter Tryd.func3, Tryd.ntmps3
    go_wp2_with (first
      | (go_at_call 11; (with_reducible refine (Law02.alive _).mono ?_); rintro e v0 ⟨rfl, hv0⟩; have hS := hS.trans hv0)
      | (go_at_call 12; (with_reducible refine (Law02.few_no _ _ _ _ _ _ _ (by omega)).mono ?_); rintro e vf ⟨rfl, rfl⟩))
    go_ret
    exact ⟨rfl, hS⟩
  by_cases g1 : 40 < len1
  · go_enter Tryd.func3, Tryd.ntmps3
    go_wp2_with (first
      | (go_at_call 11; (with_reducible refine (Law02.alive _).mono ?_); rintro e v0 ⟨rfl, hv0⟩; have hS := hS.trans hv0)
      | (go_at_call 12; (with_reducible refine (Law02.few_no _ _ _ _ _ _ _ (by omega)).mono ?_); rintro e vf ⟨rfl, rfl⟩))
    go_ret
    exact ⟨rfl, hS⟩
  have L0 : d0.length ≤ 40 := by omega
  have M0 := Lib.hid (show d0.length ≤ 10000 by omega)
  have L1 : d1.length ≤ 40 := by omega
  have M1 := Lib.hid (show d1.length ≤ 10000 by omega)
  clear hl0 L0 hl1 L1
  have K1 := Lib.hid (show (digs u).length ≤ 1000 by have := digs_len_le (n := u) (k := 2) (by have := U.out; omega); omega)
  go_enter Tryd.func3, Tryd.ntmps3
  go_wp2_with (first
    | (go_at_call 11; (with_reducible refine (Law02.alive _).mono ?_); rintro e v0 ⟨rfl, hv0⟩; have hS := hS.trans hv0)
    | (go_at_call 12; (with_reducible refine (Law02.few_yes _ _ _ _ _ _ _ (by omega) (by omega)).mono ?_); rintro e vf ⟨rfl, rfl⟩)
    | (go_at_call 13; (with_reducible refine (Nat02.uint_any (.slice a0 len0 cap0) d0 _ (R0.out.since hS) M0.out).mono ?_); rintro e x1 ⟨rfl, s1⟩; have hS := hS.trans s1)
    | (go_at_call 14; (with_reducible refine (Ref02.uint_any (.slice a0 len0 cap0) d0 _ (R0.out.since hS) M0.out).mono ?_); rintro e x2 ⟨rfl, s2⟩; have hS := hS.trans s2)
    | (go_at_call 15; (with_reducible refine (Nat02.cmp_any (.slice a0 len0 cap0) (.slice a1 len1 cap1) d0 d1 _ (R0.out.since hS) (R1.out.since hS) M0.out M1.out).mono ?_); rintro e x3 ⟨rfl, s3⟩; have hS := hS.trans s3)
    | (go_at_call 16; (with_reducible refine (Ref02.cmp_any (.slice a0 len0 cap0) (.slice a1 len1 cap1) d0 d1 _ (R0.out.since hS) (R1.out.since hS) M0.out M1.out).mono ?_); rintro e x4 ⟨rfl, s4⟩; have hS := hS.trans s4)
    | (go_at_call 17; (with_reducible refine (Nat02.right_any (.slice a0 len0 cap0) d0 _ (R0.out.since hS) M0.out).mono ?_); rintro e x5 ⟨rfl, s5⟩; have hS := hS.trans s5)
    | (go_at_call 18; (with_reducible refine (Ref02.right_any (.slice a0 len0 cap0) d0 _ (R0.out.since hS) (by have := M0.out; omega)).mono ?_); rintro e x6 ⟨rfl, rfl⟩)
    | (go_at_call 20; (with_reducible refine (Nat02.of_any u _ U.out).mono ?_); rintro e x7 ⟨v1, rfl, r1, s7⟩; have hS := hS.trans s7)
    | (go_at_call 21; (with_reducible refine (Ref02.of_any u _ U.out).mono ?_); rintro e x8 ⟨v2, rfl, r2, s8⟩; have hS := hS.trans s8; have r1 := r1.since s8)
    | (go_at_call 19; (with_reducible refine (Law02.same_wit v1 v2 (digs u) _ r1 r2 K1.out).mono ?_); rintro e x9 ⟨rfl, s9⟩; have hS := hS.trans s9))
  go_ret
  exact ⟨rfl, hS⟩

set_option maxRecDepth 100000 in
theorem lifted (os : Os) (started : os.Started) (H : Type) (enc : TypeId × Value → H) :
    ReturnsInHanded {} Tryd.checked os 3 .any (fun w args => (Rows.natMakesSpec.pre enc Tryd.prog Tryd.f3 Rows.natMakesRow.domain false w args ∧ laidMetH Tryd.prog Rows.natMakesRow.laid w) ∧ sizedMet enc Tryd.prog Tryd.f3 (OpenSpec.ofChange Rows.natMakesSpec) false w args) (Rows.natMakesSpec.post enc Tryd.prog Tryd.f3 false true false false) := by
  refine returnsInHanded_of_change_and (C := Tryd.checked) (X := fun w _ => laidMetH Tryd.prog Rows.natMakesRow.laid w) (fun _ _ _ hh h => h.of_heap hh) own started (by kernel_rfl) Tryd.func3
    (ChangeSpec.witness_shaped (enc := enc) (C := Tryd.checked) (os := os) (X := fun w _ => laidMetH Tryd.prog Rows.natMakesRow.laid w) false (World.laidAll Tryd.prog os Rows.natMakesRow.laid) #[.slice none 0 0, .slice none 0 0, .int .u64 0] 8 (World.laidAll_os _ _ _)
      (World.shaped_of_ZipB (by kernel_rfl) (by kernel_rfl)) (by kernel_rfl) (by kernel_rfl) (by kernel_rfl)
      (by rw [MakeChecks.laidMetH_plain _ _ _ (by kernel_rfl)]; exact laidMet_laidAll _ (by kernel_rfl) (by kernel_rfl))) ?_
  intro W base args ds gs before hval0 hW hcnd _ _ _
  have hval : ∀ (j : Nat) t v, Tryd.f3.params[j]? = some t → args[j]? = some v → Value.okWide Tryd.prog W .any base t v := hval0
  have hW' := hW
  obtain ⟨p, q, hA0, hV, rfl, hfz, hnd⟩ := hW
  have hA : DataW.TrodAll enc Tryd.prog W 0 (fun _ => true) true Tryd.f3.params.toList args.toList ds p := hA0
  rw [Tryd.params3] at hA hval
  obtain ⟨v0, vs0, d0, ds0, p0, q0, hargs, rfl, rfl, h0, r0⟩ := trodAll_cons hA
  obtain ⟨v1, vs1, d1, ds1, p1, q1, rfl, rfl, rfl, h1, r1⟩ := trodAll_cons r0
  obtain ⟨v2, vs2, d2, ds2, p2, q2, rfl, rfl, rfl, h2, r2⟩ := trodAll_cons r1
  obtain ⟨rfl, rfl, rfl⟩ := trodAll_nil r2
  obtain rfl : args = #[v0, v1, v2] := by cases args; simp_all
  obtain ⟨rfl, rfl⟩ := trodVars_none hV
  obtain ⟨a0, len0, cap0, rfl⟩ := okWide_slice Tryd.underlying22 (hval 0 22 v0 rfl rfl)
  have k0 := h0
  have lt0 : ∀ x ∈ p0, x.block < W.heap.size := by obtain ⟨m, hm⟩ := k0; exact DataW.trod_lt m _ _ _ hm
  obtain ⟨z0, w0⟩ : ∃ zs, IsRow .u32 W a0 len0 cap0 zs := by
    obtain ⟨fuel, hf⟩ := h0
    rcases open_ints Tryd.underlying22 Tryd.underlying55 (by kernel_rfl) hf with ⟨hcs, _⟩ | ⟨x, l, c, zs, hcs, _, hl, hm, hz, _, hcell, hwz⟩
    · simp [Value.cells] at hcs
      obtain ⟨rfl, rfl, rfl⟩ := hcs
      exact ⟨[], .inl ⟨rfl, rfl, rfl, rfl⟩⟩
    · simp [Value.cells] at hcs
      obtain ⟨rfl, rfl, rfl⟩ := hcs
      exact ⟨zs, .inr ⟨_, rfl, hl, hm, by simpa using hz, hcell, hwz⟩⟩
  obtain ⟨a1, len1, cap1, rfl⟩ := okWide_slice Tryd.underlying22 (hval 1 22 v1 rfl rfl)
  have k1 := h1
  have lt1 : ∀ x ∈ p1, x.block < W.heap.size := by obtain ⟨m, hm⟩ := k1; exact DataW.trod_lt m _ _ _ hm
  obtain ⟨z1, w1⟩ : ∃ zs, IsRow .u32 W a1 len1 cap1 zs := by
    obtain ⟨fuel, hf⟩ := h1
    rcases open_ints Tryd.underlying22 Tryd.underlying55 (by kernel_rfl) hf with ⟨hcs, _⟩ | ⟨x, l, c, zs, hcs, _, hl, hm, hz, _, hcell, hwz⟩
    · simp [Value.cells] at hcs
      obtain ⟨rfl, rfl, rfl⟩ := hcs
      exact ⟨[], .inl ⟨rfl, rfl, rfl, rfl⟩⟩
    · simp [Value.cells] at hcs
      obtain ⟨rfl, rfl, rfl⟩ := hcs
      exact ⟨zs, .inr ⟨_, rfl, hl, hm, by simpa using hz, hcell, hwz⟩⟩
  obtain ⟨a2, rfl, rfl, rfl, w2⟩ := open_int Tryd.underlying23 (hval 2 23 v2 rfl rfl) h2
  clear hA0 hval0
  refine (walk a0 len0 cap0 z0 a1 len1 cap1 z1 a2 W w0 w1 w2).mono fun e W' ⟨he, bel⟩ => ?_
  subst he
  exact ⟨_, rfl, _, _, _, [], _, [], hW', trodAll_mk1 (shut_bool Tryd.underlying4 _), (trodAll_cons_mk (Below.trod laidOut (by kernel_rfl) (of_decide_eq_true (by kernel_rfl)) k0 bel lt0) (trodAll_cons_mk (Below.trod laidOut (by kernel_rfl) (of_decide_eq_true (by kernel_rfl)) k1 bel lt1) (trodAll_cons_mk (shut_int Tryd.underlying23 w2) trodAll_mk0))), rfl, bel.frame _, fun h => by cases h⟩

theorem over : Rows.natMakesRow.holds Tryd.pinned (OpenSpec.ofChange Rows.natMakesSpec) :=
  OpenClaim.holds_of_wide 3 Tryd.f3 rfl rfl rfl rfl rfl rfl rfl ⟨rfl, rfl, rfl, rfl, rfl⟩ rfl rfl rfl rfl rfl (by kernel_rfl) Tryd.func3 (by kernel_rfl)
    (of_decide_eq_true (by kernel_rfl)) (by unfold Func.isWrapper; first | (rw [if_pos (by decide +kernel)]; kernel_rfl) | (rw [if_neg (by decide +kernel)]; exact ⟨rfl, rfl⟩))
    (fun os started H enc _ => lifted os started H enc)

/-- THE STATEMENT: the tied card -/
theorem proved : Rows.NatMakesCardSaid :=
  Claim7.holds_tied_plain_at .later [] _ _ _ _ over (fun _ h => by cases h) (by kernel_rfl) (fun _ h => by cases h) natMakes_row_tie rfl ⟨rfl, rfl⟩ (by kernel_rfl) rfl
    (fun f fn hf hfn => by
      obtain rfl : f = 3 := Option.some.inj ((show Tryd.prog.funcNamed "touchstone/touchstonelaw02.NatMakes" = some 3 by kernel_rfl).symm.trans hf) |>.symm
      obtain rfl : fn = Tryd.f3 := (Option.some.inj (Tryd.func3.symm.trans hfn)).symm
      exact ⟨by kernel_rfl, fun j t ht => by
        rw [Tryd.params3] at ht
        have hm : t ∈ [22, 22, 23] := by simpa using Array.mem_of_getElem? ht
        have hall : ([22, 22, 23].all fun u => !Tryd.prog.wantsStandIn u) = true := by kernel_rfl
        exact (show Tryd.prog.wantsStandIn t = false by simpa using List.all_eq_true.1 hall t hm)⟩)
    (by kernel_rfl)
#print axioms proved
end Go.Proofs.YtkceldnljppflaaDoor.natMakes
