/-
  For all strings a and b: the law LexBoth returns true (the tokens of two texts, one behind the other with a line feed between them, are those of both). No condition.
-/
import Derived.Test.YtbkkalmdjcpgoaaDoorRows
import Derived.Test.YtbkkalmdjcpgoaaDoorCards
import Derived.Test.YtbkkalmdjcpgoaaDoorTie
import Derived.LaidMore
import Derived.Lay
import Derived.SevenTiedAt
import Derived.WalkKit
import Derived.ProofKit
import Derived.OpenShut
import Derived.ShutString
import Derived.Test.YtbkkalmdjcpgoaaDoorVd
import Derived.Test.YtbkkalmdjcpgoaaDoorApt
namespace Go.Proofs.YtbkkalmdjcpgoaaDoor.lexBoth
open Go.ChangeShapes Go.WideShapes Go.ChangeAt Go.RowKit
open Go.ChangeMaps (open_string shut_string)
open Go.Proofs.YtbkkalmdjcpgoaaDoor.Dig Go.Proofs.YtbkkalmdjcpgoaaDoor.Lx Go.Proofs.YtbkkalmdjcpgoaaDoor.Tk Go.Proofs.YtbkkalmdjcpgoaaDoor.Law05
open Go.Proofs.YtbkkalmdjcpgoaaDoor.Lex (ErrIn)
open Go.Proofs.YtbkkalmdjcpgoaaDoor.Ref05 (noA)
set_option linter.unusedVariables false

theorem own : ownKnob Tryd.prog.godebug = none := by kernel_rfl

set_option maxRecDepth 100000 in
set_option maxHeartbeats 4000000 in
theorem walk (a0 : ByteArray) (a1 : ByteArray) (w0 : a0.size ≤ maxLen) (w1 : a1.size ≤ maxLen) (w : World) (he : Go.Proofs.YtbkkalmdjcpgoaaDoor.Lex.ErrIn w) :
    Calls Tryd.prog 7 #[.string a0, .string a1] w fun e w' => e = .returned (.bool true) ∧ Since w w' := by
  unfold maxLen at w0 w1
  have EI := Lib.hid he
  have AL := Lib.hid (alive w he)
  clear he
  by_cases hbig : 2000 < a0.size
  · have hz : decide ((2000 : Int) < (a0.size : Int)) = true := by rw [decide_eq_true_iff]; omega
    clear w0 w1
    go_enter Tryd.func7, Tryd.ntmps7
    go_wp2_with (go_at_call 8; (with_reducible refine AL.out.mono ?_); rintro e w1 ⟨rfl, h1⟩)
    go_ret
    exact ⟨rfl, h1⟩
  have hz : decide ((2000 : Int) < (a0.size : Int)) = false := by rw [decide_eq_false_iff_not]; omega
  by_cases hbig2 : 2000 < a1.size
  · have hz2 : decide ((2000 : Int) < (a1.size : Int)) = true := by rw [decide_eq_true_iff]; omega
    clear w0 w1
    go_enter Tryd.func7, Tryd.ntmps7
    go_wp2_with (go_at_call 8; (with_reducible refine AL.out.mono ?_); rintro e w1 ⟨rfl, h1⟩)
    go_ret
    exact ⟨rfl, h1⟩
  have hz2 : decide ((2000 : Int) < (a1.size : Int)) = false := by rw [decide_eq_false_iff_not]; omega
  have hLa : (L a0).length ≤ 2000 := by rw [L_len]; omega
  have hLb : (L a1).length ≤ 2000 := by rw [L_len]; omega
  have gg1 : ¬ (9223372036854775807 < a0.size + 1) := by omega
  have gg2 : ¬ (9223372036854775807 < a0.size + 1 + a1.size) := by omega
  obtain ⟨⟨o1, p1, e1⟩, hr1⟩ : ∃ r, r = splitD (L a0) := ⟨_, rfl⟩
  obtain ⟨⟨o2, p2, e2⟩, hr2⟩ : ∃ r, r = splitD (L a1) := ⟨_, rfl⟩
  obtain ⟨⟨o3, p3, e3⟩, hr3⟩ : ∃ r, r = splitD (L a0 ++ 10 :: L a1) := ⟨_, rfl⟩
  have hr3' : splitD (L (a0 ++ ⟨#[10]⟩ ++ a1)) = (o3, p3, e3) := by rw [L_both]; exact hr3.symm
  obtain ⟨n1, hn1⟩ : ∃ n, o1.length = n := ⟨_, rfl⟩
  obtain ⟨n2, hn2⟩ : ∃ n, o2.length = n := ⟨_, rfl⟩
  obtain ⟨n3, hn3⟩ : ∃ n, o3.length = n := ⟨_, rfl⟩
  have S1 := Lib.hid (fun W (h : ErrIn W) => theirs_split a0 (by omega) hr1.symm hn1 W h)
  have S2 := Lib.hid (fun W (h : ErrIn W) => theirs_split a1 (by omega) hr2.symm hn2 W h)
  have S3 := Lib.hid (fun W (h : ErrIn W) => theirs_split (a0 ++ ⟨#[10]⟩ ++ a1) (by rw [ByteArray.size_append, ByteArray.size_append]; have : ByteArray.size ⟨#[10]⟩ = 1 := rfl; omega) hr3' hn3 W h)
  by_cases hb : e1 ≠ 0 ∨ e2 ≠ 0
  · have he3 := both_bad hLa hLb hr1.symm hr2.symm hr3.symm hb
    have ne3 : (e3 != 0) = true := by rw [bne_iff_ne]; exact he3
    clear he3 hr1 hr2 hr3 hr3' hn1 hn2 hn3 w0 w1 hLa hLb
    by_cases h1 : e1 = 0
    · have ne1 : (e1 != 0) = false := by rw [bne_eq_false_iff_eq]; exact h1
      have ne2 : (e2 != 0) = true := by rw [bne_iff_ne]; omega
      clear hb h1
      go_enter Tryd.func7, Tryd.ntmps7
      go_wp2_with (first
        | (go_at_call 8; (with_reducible refine AL.out.mono ?_); rintro e w1 ⟨rfl, h1⟩)
        | (go_at_call 9; (with_reducible refine (S1.out _ (EI.out.since h1)).mono ?_); rintro e w2 ⟨A1, c1, rfl, t1, h2⟩)
        | (go_at_call 9; (with_reducible refine (S2.out _ (EI.out.since (h1.trans h2))).mono ?_); rintro e w3 ⟨A2, c2, rfl, t2, h3⟩)
        | (go_at_call 9; (with_reducible refine (S3.out _ (EI.out.since ((h1.trans h2).trans h3))).mono ?_); rintro e w4 ⟨A3, c3, rfl, t3, h4⟩))
      go_ret
      exact ⟨rfl, ((h1.trans h2).trans h3).trans h4⟩
    · have ne1 : (e1 != 0) = true := by rw [bne_iff_ne]; exact h1
      clear hb h1
      go_enter Tryd.func7, Tryd.ntmps7
      go_wp2_with (first
        | (go_at_call 8; (with_reducible refine AL.out.mono ?_); rintro e w1 ⟨rfl, h1⟩)
        | (go_at_call 9; (with_reducible refine (S1.out _ (EI.out.since h1)).mono ?_); rintro e w2 ⟨A1, c1, rfl, t1, h2⟩)
        | (go_at_call 9; (with_reducible refine (S2.out _ (EI.out.since (h1.trans h2))).mono ?_); rintro e w3 ⟨A2, c2, rfl, t2, h3⟩)
        | (go_at_call 9; (with_reducible refine (S3.out _ (EI.out.since ((h1.trans h2).trans h3))).mono ?_); rintro e w4 ⟨A3, c3, rfl, t3, h4⟩))
      go_ret
      exact ⟨rfl, ((h1.trans h2).trans h3).trans h4⟩
  obtain ⟨rfl, rfl⟩ : e1 = 0 ∧ e2 = 0 := by omega
  obtain ⟨x1⟩ : Nonempty (Lexes ((L a0).drop (blk false (L a0))) (blk false (L a0)) o1) := by
    rcases split_cases (by omega) hr1.symm with ⟨-, -, -, h⟩ | ⟨h, -⟩
    · exact ⟨h⟩
    · exact absurd rfl h
  obtain ⟨x2⟩ : Nonempty (Lexes ((L a1).drop (blk false (L a1))) (blk false (L a1)) o2) := by
    rcases split_cases (by omega) hr2.symm with ⟨-, -, -, h⟩ | ⟨h, -⟩
    · exact ⟨h⟩
    · exact absurd rfl h
  obtain ⟨vs, hv1, hv2, hl1, hl2⟩ := both_of hLa hLb x1 x2
  rw [← hr3] at hv1
  injection hv1 with hv3 hv4
  injection hv4 with hv4 hv5
  subst hv3 hv4 hv5
  have HE := Lib.hid (both_same hv2)
  have hn32 : n3 = n1 + n2 := by
    have := congrArg List.length hv2
    rw [List.length_append, List.length_map, List.length_map, List.length_map] at this
    omega
  have HN := Lib.hid hn32
  have lb1 : n1 ≤ 2000 := by omega
  have lb2 : n2 ≤ 2000 := by omega
  have lb3 : n3 ≤ 10000 := by omega
  have hm2 := hn2
  have L2 := Lib.hid (show (o2.map tv).length = n2 by rw [List.length_map]; exact hn2)
  have L1 := Lib.hid (show (o1.map tv).length = n1 by rw [List.length_map]; exact hn1)
  have L3 := Lib.hid (show (o3.map tv).length = n3 by rw [List.length_map]; exact hn3)
  clear hr1 hr2 hr3 hr3' hn1 hn2 hn3 hm2 w0 w1 hLa hLb x1 x2 hv2 hl1 hl2 hb hn32
  generalize o1.map tv = t1s at *
  generalize o2.map tv = t2s at *
  generalize o3.map tv = t3s at *
  obtain ⟨i0, hi, hz0, hz1', hz2'⟩ := info_parts Ref05.info_tok
  go_enter Tryd.func7, Tryd.ntmps7
  go_wp2_with (first
    | (go_at_call 8; (with_reducible refine AL.out.mono ?_); rintro e w1 ⟨rfl, h1⟩)
    | (go_at_call 9; (with_reducible refine (S1.out _ (EI.out.since h1)).mono ?_); rintro e w2 ⟨A1, c1, rfl, t1, h2⟩)
    | (go_at_call 9; (with_reducible refine (S2.out _ (EI.out.since (h1.trans h2))).mono ?_); rintro e w3 ⟨A2, c2, rfl, t2, h3⟩)
    | (go_at_call 9; (with_reducible refine (S3.out _ (EI.out.since ((h1.trans h2).trans h3))).mono ?_); rintro e w4 ⟨A3, c3, rfl, t3, h4⟩)
    | (go_at_call 12; (with_reducible refine (ours_at A3 c3 n3 t3s _ t3 lb3).mono ?_); rintro e w5 ⟨B3, d3, rfl, q3, h5⟩; have r3 := Toks.own q3)
    | (go_at_call 12; (with_reducible refine (ours_at A1 c1 n1 t1s _ (t1.since (((h3.trans h4).trans h5))) (by omega)).mono ?_); rintro e w6 ⟨B1, d1, rfl, q1, h6⟩)
    | (go_at_call 12; (with_reducible refine (ours_at A2 c2 n2 t2s _ (t2.since ((h4.trans h5).trans h6)) (by omega)).mono ?_); rintro e w7 ⟨B2, d2, rfl, q2, h7⟩; have r2 := Toks.own q2)
    | (at_builtin; refine wpList_append_toks (by rfl) _ _ 27 rfl w5.heap.size 34 i0 (.agg #[.int .i64 0, .string ⟨#[]⟩, .int .i64 0, .int .i64 0]) 40 Tryd.underlying27 hi hz0 hz1' hz2' rfl (.slice B1 n1 d1) n1 t1s rfl (owns_since q1 h7) B2 n2 d2 t2s rfl r2 ?c1 ?c2 ?c3 ?_))
  case c1 => unfold maxLen; omega
  case c2 => omega
  case c3 => exact (h6.trans h7).size
  intro v' w8 ho8 hg8
  have h8 : Since w5 w8 := Below.grown (h6.trans h7) hg8 (h6.trans h7).size (fun g hg => (q1.lt g hg).1)
  obtain ⟨B4, d4, rfl⟩ := owns_slice ho8
  have r4 := Toks.own ho8
  have hlen : t3s.length ≤ 10000 := by rw [L3.out]; exact lb3
  clear ho8 hg8
  go_wp2_with (go_at_call 11; (with_reducible refine (Ref05.same_free (.slice B3 n3 d3) (.slice B4 (n1 + n2) d4) t3s (t1s ++ t2s) _ (r3.since h8) r4 hlen HE.out).mono ?_); rintro e w9 ⟨rfl, h9⟩)
  go_ret
  exact ⟨rfl, (((((h1.trans h2).trans h3).trans h4).trans h5).trans h8).trans h9⟩

set_option maxRecDepth 100000 in
theorem lifted (os : Os) (started : os.Started) (H : Type) (enc : TypeId × Value → H) :
    ReturnsInHanded {} Tryd.checked os 7 .any (fun w args => (Rows.lexBothSpec.pre enc Tryd.prog Tryd.f7 Rows.lexBothRow.domain false w args ∧ laidMetH Tryd.prog Rows.lexBothRow.laid w) ∧ sizedMet enc Tryd.prog Tryd.f7 (OpenSpec.ofChange Rows.lexBothSpec) false w args) (Rows.lexBothSpec.post enc Tryd.prog Tryd.f7 false true false false) := by
  refine returnsInHanded_of_change_and (C := Tryd.checked) (X := fun w _ => laidMetH Tryd.prog Rows.lexBothRow.laid w) (fun _ _ _ hh h => h.of_heap hh) own started (by kernel_rfl) Tryd.func7
    (ChangeSpec.witness_shaped (enc := enc) (C := Tryd.checked) (os := os) (X := fun w _ => laidMetH Tryd.prog Rows.lexBothRow.laid w) false (World.laidAll Tryd.prog os Rows.lexBothRow.laid) #[.string ByteArray.empty, .string ByteArray.empty] 8 (World.laidAll_os _ _ _)
      (World.shaped_of_ZipB (by kernel_rfl) (by kernel_rfl)) (by kernel_rfl) (by kernel_rfl) (by kernel_rfl)
      (by rw [MakeChecks.laidMetH_plain _ _ _ (by kernel_rfl)]; exact laidMet_laidAll _ (by kernel_rfl) (by kernel_rfl))) ?_
  intro W base args ds gs before hval0 hW hcnd _ hL _
  have hval : ∀ (j : Nat) t v, Tryd.f7.params[j]? = some t → args[j]? = some v → Value.okWide Tryd.prog W .any base t v := hval0
  have hW' := hW
  obtain ⟨p, q, hA0, hV, rfl, hfz, hnd⟩ := hW
  have hA : DataW.TrodAll enc Tryd.prog W 0 (fun _ => true) true Tryd.f7.params.toList args.toList ds p := hA0
  rw [Tryd.params7] at hA hval
  obtain ⟨v0, vs0, d0, ds0, p0, q0, hargs, rfl, rfl, h0, r0⟩ := trodAll_cons hA
  obtain ⟨v1, vs1, d1, ds1, p1, q1, rfl, rfl, rfl, h1, r1⟩ := trodAll_cons r0
  obtain ⟨rfl, rfl, rfl⟩ := trodAll_nil r1
  obtain rfl : args = #[v0, v1] := by cases args; simp_all
  obtain ⟨rfl, rfl⟩ := trodVars_none hV
  obtain ⟨a0, rfl, rfl, rfl, w0⟩ := open_string Tryd.underlying9 (hval 0 9 v0 rfl rfl) h0
  obtain ⟨a1, rfl, rfl, rfl, w1⟩ := open_string Tryd.underlying9 (hval 1 9 v1 rfl rfl) h1
  clear hA0 hval0
  simp only [List.append_nil] at hW'
  refine (walk a0 a1 w0 w1 W (Go.Proofs.YtbkkalmdjcpgoaaDoor.Lex.err_of hL (by kernel_rfl) (List.mem_of_getElem? (i := 3) rfl))).mono fun e W' ⟨he, bel⟩ => ?_
  subst he
  exact ⟨_, rfl, _, _, _, [], [], [], hW', (trodAll_cons_mk (shut_bool Tryd.underlying4 _) trodAll_mk0), (trodAll_cons_mk (shut_string Tryd.underlying9 w0) (trodAll_cons_mk (shut_string Tryd.underlying9 w1) trodAll_mk0)), rfl, Below.frame bel _, fun h => by cases h⟩

theorem over : Rows.lexBothRow.holds Tryd.pinned (OpenSpec.ofChange Rows.lexBothSpec) :=
  OpenClaim.holds_of_wide 7 Tryd.f7 rfl rfl rfl rfl rfl rfl rfl ⟨rfl, rfl, rfl, rfl, rfl⟩ rfl rfl rfl rfl rfl (by kernel_rfl) Tryd.func7 (by kernel_rfl)
    (of_decide_eq_true (by kernel_rfl)) (by unfold Func.isWrapper; first | (rw [if_pos (by decide +kernel)]; kernel_rfl) | (rw [if_neg (by decide +kernel)]; exact ⟨rfl, rfl⟩))
    (fun os started H enc _ => lifted os started H enc)

/-- THE STATEMENT: the tied card -/
theorem proved : Rows.LexBothCardSaid :=
  Claim7.holds_tied_plain_at .later [] _ _ _ _ over (fun _ h => by cases h) (by kernel_rfl) (fun _ h => by cases h) lexBoth_row_tie rfl ⟨rfl, rfl⟩ (by kernel_rfl) rfl
    (fun f fn hf hfn => by
      obtain rfl : f = 7 := Option.some.inj ((show Tryd.prog.funcNamed "touchstone/touchstonelaw05.LexBoth" = some 7 by kernel_rfl).symm.trans hf) |>.symm
      obtain rfl : fn = Tryd.f7 := (Option.some.inj (Tryd.func7.symm.trans hfn)).symm
      exact ⟨by kernel_rfl, fun j t ht => by
        rw [Tryd.params7] at ht
        have hm : t ∈ [9, 9] := by simpa using Array.mem_of_getElem? ht
        have hall : ([9, 9].all fun u => !Tryd.prog.wantsStandIn u) = true := by kernel_rfl
        exact (show Tryd.prog.wantsStandIn t = false by simpa using List.all_eq_true.1 hall t hm)⟩)
    (by kernel_rfl)
#print axioms proved
end Go.Proofs.YtbkkalmdjcpgoaaDoor.lexBoth
