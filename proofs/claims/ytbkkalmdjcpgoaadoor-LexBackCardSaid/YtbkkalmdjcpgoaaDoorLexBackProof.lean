/-
  For every string s: the law LexBack returns true (the tokens of a text, joined and split again, are they, but for where they stand). No condition.
-/
import Derived.Test.YtbkkalmdjcpgoaaDoorRows
import Derived.Test.YtbkkalmdjcpgoaaDoorCards
import Derived.Test.YtbkkalmdjcpgoaaDoorTie
import Derived.LaidMore
import Derived.Lay
import Derived.SevenTiedAt
import Derived.WalkKit
import Derived.ProofKit
import Derived.OpenShut
import Derived.ShutString
import Derived.Test.YtbkkalmdjcpgoaaDoorVd
namespace Go.Proofs.YtbkkalmdjcpgoaaDoor.lexBack
open Go.ChangeShapes Go.WideShapes Go.ChangeAt Go.RowKit
open Go.ChangeMaps (open_string shut_string)
open Go.Proofs.YtbkkalmdjcpgoaaDoor.Dig Go.Proofs.YtbkkalmdjcpgoaaDoor.Lx Go.Proofs.YtbkkalmdjcpgoaaDoor.Tk Go.Proofs.YtbkkalmdjcpgoaaDoor.Law05
open Go.Proofs.YtbkkalmdjcpgoaaDoor.Lex (ErrIn)
open Go.Proofs.YtbkkalmdjcpgoaaDoor.Ref05 (noA)
set_option linter.unusedVariables false

theorem own : ownKnob Tryd.prog.godebug = none := by kernel_rfl

set_option maxRecDepth 100000 in
set_option maxHeartbeats 2000000 in
theorem walk (a0 : ByteArray) (w0 : a0.size ≤ maxLen) (w : World) (he : Go.Proofs.YtbkkalmdjcpgoaaDoor.Lex.ErrIn w) :
    Calls Tryd.prog 5 #[.string a0] w fun e w' => e = .returned (.bool true) ∧ Since w w' := by
  unfold maxLen at w0
  have EI := Lib.hid he
  have AL := Lib.hid (alive w he)
  clear he
  by_cases hbig : 2250 < a0.size
  · clear w0
    have hz : decide ((2250 : Int) < (a0.size : Int)) = true := by rw [decide_eq_true_iff]; omega
    go_enter Tryd.func5, Tryd.ntmps5
    go_wp2_with (go_at_call 8; (with_reducible refine AL.out.mono ?_); rintro e w1 ⟨rfl, h1⟩)
    go_ret
    exact ⟨rfl, h1⟩
  have hz : decide ((2250 : Int) < (a0.size : Int)) = false := by rw [decide_eq_false_iff_not]; omega
  obtain ⟨⟨o, p, er⟩, hr⟩ : ∃ r, r = splitD (L a0) := ⟨_, rfl⟩
  have hL : (L a0).length ≤ 2250 := by rw [L_len]; omega
  rcases split_cases (by omega) hr.symm with ⟨rfl, rfl, hn4, hx⟩ | ⟨h0, rfl, -, -⟩
  rotate_left
  · have S1 := Lib.hid (fun W (h : ErrIn W) => theirs_split a0 (by omega) hr.symm (rfl : ([] : List Tok).length = 0) W h)
    have hne : (er != 0) = true := by rw [bne_iff_ne]; exact h0
    clear hr hL h0 w0
    go_enter Tryd.func5, Tryd.ntmps5
    go_wp2_with (first
      | (go_at_call 8; (with_reducible refine AL.out.mono ?_); rintro e w1 ⟨rfl, h1⟩)
      | (go_at_call 9; (with_reducible refine (S1.out _ (EI.out.since h1)).mono ?_); rintro e w2 ⟨A, c, rfl, t1, h2⟩))
    go_ret
    exact ⟨rfl, h1.trans h2⟩
  obtain ⟨us, h3, h4, h5, h6⟩ := back_of hL hx
  rw [← L_join] at h3 h5
  have hsz := tok_sizes (s := L a0) (by omega) (by rw [List.length_drop]; omega) hx
  have hul : us.length = o.length := by have := congrArg List.length h4; simpa using this
  obtain ⟨n, hn⟩ : ∃ n, o.length = n := ⟨_, rfl⟩
  have hn2 : n ≤ 10000 := by omega
  have S1 := Lib.hid (fun W (h : ErrIn W) => theirs_split a0 (by omega) hr.symm hn W h)
  have S2 := Lib.hid (fun W (h : ErrIn W) => theirs_split (joinB (o.map tv)) (by have := L_len (joinB (o.map tv)); omega) h3 (hul.trans hn) W h)
  have HE := Lib.hid (noA_map h4)
  have HJ := Lib.hid (fun W A c (h : Toks W (.slice A n c) (o.map tv)) => Lex.join_any (.slice A n c) (o.map tv) W h (by rw [List.length_map]; omega) hsz)
  clear hr hL hn4 hx h3 h4 h5 h6 hsz hul hn w0
  generalize joinB (o.map tv) = J at *
  generalize o.map tv = ts at *
  generalize us.map tv = vs at *
  go_enter Tryd.func5, Tryd.ntmps5
  go_wp2_with (first
    | (go_at_call 8; (with_reducible refine AL.out.mono ?_); rintro e w1 ⟨rfl, h1⟩)
    | (go_at_call 9; (with_reducible refine (S1.out _ (EI.out.since h1)).mono ?_); rintro e w2 ⟨A, c, rfl, t1, h2⟩)
    | (go_at_call 13; (with_reducible refine (HJ.out _ A c t1).mono ?_); rintro e w3 ⟨rfl, h3⟩)
    | (go_at_call 9; (with_reducible refine (S2.out _ (EI.out.since ((h1.trans h2).trans h3))).mono ?_); rintro e w4 ⟨B, d, rfl, t2, h4⟩)
    | (go_at_call 12; (with_reducible refine (ours_at A c n ts _ (t1.since (h3.trans h4)) hn2).mono ?_); rintro e w5 ⟨C, k, rfl, ho, h5⟩; have t3 := Toks.own ho)
    | (go_at_call 12; (with_reducible refine (ours_at B d n vs _ (t2.since h5) hn2).mono ?_); rintro e w6 ⟨D, m, rfl, ho2, h6⟩; have t4 := Toks.own ho2)
    | (go_at_call 11; (with_reducible refine (Ref05.same_free (.slice C n k) (.slice D n m) ts vs _ (t3.since h6) t4 (by rw [← t1.at_.1]; exact hn2) HE.out.symm).mono ?_); rintro e w7 ⟨rfl, h7⟩))
  go_ret
  exact ⟨rfl, (((((h1.trans h2).trans h3).trans h4).trans h5).trans h6).trans h7⟩

set_option maxRecDepth 100000 in
theorem lifted (os : Os) (started : os.Started) (H : Type) (enc : TypeId × Value → H) :
    ReturnsInHanded {} Tryd.checked os 5 .any (fun w args => (Rows.lexBackSpec.pre enc Tryd.prog Tryd.f5 Rows.lexBackRow.domain false w args ∧ laidMetH Tryd.prog Rows.lexBackRow.laid w) ∧ sizedMet enc Tryd.prog Tryd.f5 (OpenSpec.ofChange Rows.lexBackSpec) false w args) (Rows.lexBackSpec.post enc Tryd.prog Tryd.f5 false true false false) := by
  refine returnsInHanded_of_change_and (C := Tryd.checked) (X := fun w _ => laidMetH Tryd.prog Rows.lexBackRow.laid w) (fun _ _ _ hh h => h.of_heap hh) own started (by kernel_rfl) Tryd.func5
    (ChangeSpec.witness_shaped (enc := enc) (C := Tryd.checked) (os := os) (X := fun w _ => laidMetH Tryd.prog Rows.lexBackRow.laid w) false (World.laidAll Tryd.prog os Rows.lexBackRow.laid) #[.string ByteArray.empty] 8 (World.laidAll_os _ _ _)
      (World.shaped_of_ZipB (by kernel_rfl) (by kernel_rfl)) (by kernel_rfl) (by kernel_rfl) (by kernel_rfl)
      (by rw [MakeChecks.laidMetH_plain _ _ _ (by kernel_rfl)]; exact laidMet_laidAll _ (by kernel_rfl) (by kernel_rfl))) ?_
  intro W base args ds gs before hval0 hW hcnd _ hL _
  have hval : ∀ (j : Nat) t v, Tryd.f5.params[j]? = some t → args[j]? = some v → Value.okWide Tryd.prog W .any base t v := hval0
  have hW' := hW
  obtain ⟨p, q, hA0, hV, rfl, hfz, hnd⟩ := hW
  have hA : DataW.TrodAll enc Tryd.prog W 0 (fun _ => true) true Tryd.f5.params.toList args.toList ds p := hA0
  rw [Tryd.params5] at hA hval
  obtain ⟨v0, vs0, d0, ds0, p0, q0, hargs, rfl, rfl, h0, r0⟩ := trodAll_cons hA
  obtain ⟨rfl, rfl, rfl⟩ := trodAll_nil r0
  obtain rfl : args = #[v0] := by cases args; simp_all
  obtain ⟨rfl, rfl⟩ := trodVars_none hV
  obtain ⟨a0, rfl, rfl, rfl, w0⟩ := open_string Tryd.underlying9 (hval 0 9 v0 rfl rfl) h0
  clear hA0 hval0
  simp only [List.append_nil] at hW'
  refine (walk a0 w0 W (Go.Proofs.YtbkkalmdjcpgoaaDoor.Lex.err_of hL (by kernel_rfl) (List.mem_of_getElem? (i := 3) rfl))).mono fun e W' ⟨he, bel⟩ => ?_
  subst he
  exact ⟨_, rfl, _, _, _, [], [], [], hW', (trodAll_cons_mk (shut_bool Tryd.underlying4 _) trodAll_mk0), (trodAll_cons_mk (shut_string Tryd.underlying9 w0) trodAll_mk0), rfl, Below.frame bel _, fun h => by cases h⟩

theorem over : Rows.lexBackRow.holds Tryd.pinned (OpenSpec.ofChange Rows.lexBackSpec) :=
  OpenClaim.holds_of_wide 5 Tryd.f5 rfl rfl rfl rfl rfl rfl rfl ⟨rfl, rfl, rfl, rfl, rfl⟩ rfl rfl rfl rfl rfl (by kernel_rfl) Tryd.func5 (by kernel_rfl)
    (of_decide_eq_true (by kernel_rfl)) (by unfold Func.isWrapper; first | (rw [if_pos (by decide +kernel)]; kernel_rfl) | (rw [if_neg (by decide +kernel)]; exact ⟨rfl, rfl⟩))
    (fun os started H enc _ => lifted os started H enc)

/-- THE STATEMENT: the tied card -/
theorem proved : Rows.LexBackCardSaid :=
  Claim7.holds_tied_plain_at .later [] _ _ _ _ over (fun _ h => by cases h) (by kernel_rfl) (fun _ h => by cases h) lexBack_row_tie rfl ⟨rfl, rfl⟩ (by kernel_rfl) rfl
    (fun f fn hf hfn => by
      obtain rfl : f = 5 := Option.some.inj ((show Tryd.prog.funcNamed "touchstone/touchstonelaw05.LexBack" = some 5 by kernel_rfl).symm.trans hf) |>.symm
      obtain rfl : fn = Tryd.f5 := (Option.some.inj (Tryd.func5.symm.trans hfn)).symm
      exact ⟨by kernel_rfl, fun j t ht => by
        rw [Tryd.params5] at ht
        have hm : t ∈ [9] := by simpa using Array.mem_of_getElem? ht
        have hall : ([9].all fun u => !Tryd.prog.wantsStandIn u) = true := by kernel_rfl
        exact (show Tryd.prog.wantsStandIn t = false by simpa using List.all_eq_true.1 hall t hm)⟩)
    (by kernel_rfl)
#print axioms proved
end Go.Proofs.YtbkkalmdjcpgoaaDoor.lexBack
