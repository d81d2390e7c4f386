/-
  For every string s: the law LexSplits returns true (the tokens of any text, or where it is wrong, and how, are the document's). No condition.
-/
import Derived.Test.YtbkkalmdjcpgoaaDoorRows
import Derived.Test.YtbkkalmdjcpgoaaDoorCards
import Derived.Test.YtbkkalmdjcpgoaaDoorTie
import Derived.LaidMore
import Derived.Lay
import Derived.SevenTiedAt
import Derived.WalkKit
import Derived.ProofKit
import Derived.OpenShut
import Derived.ShutString
import Derived.Test.YtbkkalmdjcpgoaaDoorVd
namespace Go.Proofs.YtbkkalmdjcpgoaaDoor.lexSplits
open Go.ChangeShapes Go.WideShapes Go.ChangeAt Go.RowKit
open Go.ChangeMaps (open_string shut_string)
open Go.Proofs.YtbkkalmdjcpgoaaDoor.Dig Go.Proofs.YtbkkalmdjcpgoaaDoor.Lx Go.Proofs.YtbkkalmdjcpgoaaDoor.Tk Go.Proofs.YtbkkalmdjcpgoaaDoor.Law05
open Go.Proofs.YtbkkalmdjcpgoaaDoor.Lex (ErrIn)
set_option linter.unusedVariables false

theorem own : ownKnob Tryd.prog.godebug = none := by kernel_rfl

set_option maxRecDepth 100000 in
set_option maxHeartbeats 2000000 in
theorem walk (a0 : ByteArray) (w0 : a0.size ≤ maxLen) (w : World) (he : Go.Proofs.YtbkkalmdjcpgoaaDoor.Lex.ErrIn w) :
    Calls Tryd.prog 3 #[.string a0] w fun e w' => e = .returned (.bool true) ∧ Since w w' := by
  unfold maxLen at w0
  have EI := Lib.hid he
  have AL := Lib.hid (alive w he)
  clear he
  by_cases hbig : 9000 < a0.size
  · clear w0
    have hz : decide ((9000 : Int) < (a0.size : Int)) = true := by rw [decide_eq_true_iff]; omega
    go_enter Tryd.func3, Tryd.ntmps3
    go_wp2_with (go_at_call 8; (with_reducible refine AL.out.mono ?_); rintro e w1 ⟨rfl, h1⟩)
    go_ret
    exact ⟨rfl, h1⟩
  have hl := splitD_len (L a0)
  obtain ⟨⟨o, p, er⟩, hr⟩ : ∃ r, r = splitD (L a0) := ⟨_, rfl⟩
  rw [← hr] at hl
  obtain ⟨n, hn⟩ : ∃ n, o.length = n := ⟨_, rfl⟩
  have hn2 : n ≤ 10000 := by simp only at hl; omega
  have S1 := Lib.hid (fun W (h : ErrIn W) => theirs_split a0 (by omega) hr.symm hn W h)
  have S2 := Lib.hid (fun W => docs_split a0 (by omega) hr.symm hn W)
  generalize o.map tv = ts at *
  have hz : decide ((9000 : Int) < (a0.size : Int)) = false := by rw [decide_eq_false_iff_not]; omega
  clear hl hr hn
  go_enter Tryd.func3, Tryd.ntmps3
  go_wp2_with (first
    | (go_at_call 8; (with_reducible refine AL.out.mono ?_); rintro e w1 ⟨rfl, h1⟩)
    | (go_at_call 9; (with_reducible refine (S1.out _ (EI.out.since h1)).mono ?_); rintro e w2 ⟨A, c, rfl, t1, h2⟩)
    | (go_at_call 10; (with_reducible refine (S2.out _).mono ?_); rintro e w3 ⟨B, d, rfl, t2, h3⟩)
    | (go_at_call 12; (with_reducible refine (ours_at A c n ts _ (t1.since h3) hn2).mono ?_); rintro e w4 ⟨C, k, rfl, ho, h4⟩; have t3 := Toks.own ho)
    | (go_at_call 11; (with_reducible refine (Ref05.same_places (.slice C n k) (.slice B n d) ts _ t3 (t2.since h4) (by rw [← t1.at_.1]; exact hn2)).mono ?_); rintro e w5 ⟨rfl, h5⟩))
  go_ret
  exact ⟨rfl, (((h1.trans h2).trans h3).trans h4).trans h5⟩

set_option maxRecDepth 100000 in
theorem lifted (os : Os) (started : os.Started) (H : Type) (enc : TypeId × Value → H) :
    ReturnsInHanded {} Tryd.checked os 3 .any (fun w args => (Rows.lexSplitsSpec.pre enc Tryd.prog Tryd.f3 Rows.lexSplitsRow.domain false w args ∧ laidMetH Tryd.prog Rows.lexSplitsRow.laid w) ∧ sizedMet enc Tryd.prog Tryd.f3 (OpenSpec.ofChange Rows.lexSplitsSpec) false w args) (Rows.lexSplitsSpec.post enc Tryd.prog Tryd.f3 false true false false) := by
  refine returnsInHanded_of_change_and (C := Tryd.checked) (X := fun w _ => laidMetH Tryd.prog Rows.lexSplitsRow.laid w) (fun _ _ _ hh h => h.of_heap hh) own started (by kernel_rfl) Tryd.func3
    (ChangeSpec.witness_shaped (enc := enc) (C := Tryd.checked) (os := os) (X := fun w _ => laidMetH Tryd.prog Rows.lexSplitsRow.laid w) false (World.laidAll Tryd.prog os Rows.lexSplitsRow.laid) #[.string ByteArray.empty] 8 (World.laidAll_os _ _ _)
      (World.shaped_of_ZipB (by kernel_rfl) (by kernel_rfl)) (by kernel_rfl) (by kernel_rfl) (by kernel_rfl)
      (by rw [MakeChecks.laidMetH_plain _ _ _ (by kernel_rfl)]; exact laidMet_laidAll _ (by kernel_rfl) (by kernel_rfl))) ?_
  intro W base args ds gs before hval0 hW hcnd _ hL _
  have hval : ∀ (j : Nat) t v, Tryd.f3.params[j]? = some t → args[j]? = some v → Value.okWide Tryd.prog W .any base t v := hval0
  have hW' := hW
  obtain ⟨p, q, hA0, hV, rfl, hfz, hnd⟩ := hW
  have hA : DataW.TrodAll enc Tryd.prog W 0 (fun _ => true) true Tryd.f3.params.toList args.toList ds p := hA0
  rw [Tryd.params3] at hA hval
  obtain ⟨v0, vs0, d0, ds0, p0, q0, hargs, rfl, rfl, h0, r0⟩ := trodAll_cons hA
  obtain ⟨rfl, rfl, rfl⟩ := trodAll_nil r0
  obtain rfl : args = #[v0] := by cases args; simp_all
  obtain ⟨rfl, rfl⟩ := trodVars_none hV
  obtain ⟨a0, rfl, rfl, rfl, w0⟩ := open_string Tryd.underlying9 (hval 0 9 v0 rfl rfl) h0
  clear hA0 hval0
  simp only [List.append_nil] at hW'
  refine (walk a0 w0 W (Go.Proofs.YtbkkalmdjcpgoaaDoor.Lex.err_of hL (by kernel_rfl) (List.mem_of_getElem? (i := 3) rfl))).mono fun e W' ⟨he, bel⟩ => ?_
  subst he
  exact ⟨_, rfl, _, _, _, [], [], [], hW', (trodAll_cons_mk (shut_bool Tryd.underlying4 _) trodAll_mk0), (trodAll_cons_mk (shut_string Tryd.underlying9 w0) trodAll_mk0), rfl, Below.frame bel _, fun h => by cases h⟩

theorem over : Rows.lexSplitsRow.holds Tryd.pinned (OpenSpec.ofChange Rows.lexSplitsSpec) :=
  OpenClaim.holds_of_wide 3 Tryd.f3 rfl rfl rfl rfl rfl rfl rfl ⟨rfl, rfl, rfl, rfl, rfl⟩ rfl rfl rfl rfl rfl (by kernel_rfl) Tryd.func3 (by kernel_rfl)
    (of_decide_eq_true (by kernel_rfl)) (by unfold Func.isWrapper; first | (rw [if_pos (by decide +kernel)]; kernel_rfl) | (rw [if_neg (by decide +kernel)]; exact ⟨rfl, rfl⟩))
    (fun os started H enc _ => lifted os started H enc)

/-- THE STATEMENT: the tied card -/
theorem proved : Rows.LexSplitsCardSaid :=
  Claim7.holds_tied_plain_at .later [] _ _ _ _ over (fun _ h => by cases h) (by kernel_rfl) (fun _ h => by cases h) lexSplits_row_tie rfl ⟨rfl, rfl⟩ (by kernel_rfl) rfl
    (fun f fn hf hfn => by
      obtain rfl : f = 3 := Option.some.inj ((show Tryd.prog.funcNamed "touchstone/touchstonelaw05.LexSplits" = some 3 by kernel_rfl).symm.trans hf) |>.symm
      obtain rfl : fn = Tryd.f3 := (Option.some.inj (Tryd.func3.symm.trans hfn)).symm
      exact ⟨by kernel_rfl, fun j t ht => by
        rw [Tryd.params3] at ht
        have hm : t ∈ [9] := by simpa using Array.mem_of_getElem? ht
        have hall : ([9].all fun u => !Tryd.prog.wantsStandIn u) = true := by kernel_rfl
        exact (show Tryd.prog.wantsStandIn t = false by simpa using List.all_eq_true.1 hall t hm)⟩)
    (by kernel_rfl)
#print axioms proved
end Go.Proofs.YtbkkalmdjcpgoaaDoor.lexSplits
