/-
  For every slice l of tokens: the law LexJoins returns true (any tokens as a text are the document's) and leaves l as it was. No condition.
-/
import Derived.Test.YtbkkalmdjcpgoaaDoorRows
import Derived.Test.YtbkkalmdjcpgoaaDoorCards
import Derived.Test.YtbkkalmdjcpgoaaDoorTie
import Derived.LaidMore
import Derived.Lay
import Derived.SevenTiedAt
import Derived.WalkKit
import Derived.ProofKit
import Derived.OpenShut
import Derived.ShutString
import Derived.ChangeOld
import Derived.Below
import Derived.Test.YtbkkalmdjcpgoaaDoorVd
import Derived.Test.YtbkkalmdjcpgoaaDoorOpt
namespace Go.Proofs.YtbkkalmdjcpgoaaDoor.lexJoins
open Go.ChangeShapes Go.WideShapes Go.ChangeAt Go.RowKit
open Go.ChangeMaps (open_string shut_string)
open Go.Proofs.YtbkkalmdjcpgoaaDoor.Dig Go.Proofs.YtbkkalmdjcpgoaaDoor.Lx Go.Proofs.YtbkkalmdjcpgoaaDoor.Tk Go.Proofs.YtbkkalmdjcpgoaaDoor.Law05
open Go.Proofs.YtbkkalmdjcpgoaaDoor.Lex (ErrIn)
set_option linter.unusedVariables false

theorem own : ownKnob Tryd.prog.godebug = none := by kernel_rfl
theorem laidOut : laidOutB Tryd.prog = true := by kernel_rfl

/-- WHAT THE WALK IS TOLD OF A SLICE OF INTEGERS THAT CAME IN: it is nil; or it leads to a row of 'cap' cells, the numbers 'zs' (the first 'len' are its elements, the rest its spare room), each fitting its kind. -/
def IsRow (k : IntKind) (w : World) (a : Option Addr) (len cap : Nat) (zs : List Int) : Prop :=
  (a = none ∧ len = 0 ∧ cap = 0 ∧ zs = []) ∨
  ∃ x, a = some x ∧ len ≤ cap ∧ cap ≤ maxLen ∧ zs.length = cap ∧ (∀ i, i < zs.length → w.cell? (x.add i) = some (.int k (zs.getD i 0))) ∧ ∀ n ∈ zs, (Lit.int k n).wf = true

set_option maxRecDepth 100000 in
set_option maxHeartbeats 4000000 in
theorem walk (a0 : Option Addr) (len0 cap0 : Nat) (z0 : List Go.Proofs.YtbkkalmdjcpgoaaDoor.Tk.Tv) (w : World) (he : Go.Proofs.YtbkkalmdjcpgoaaDoor.Lex.ErrIn w) (w0 : Go.Proofs.YtbkkalmdjcpgoaaDoor.Tk.ToksIn w a0 len0 cap0 z0) :
    Calls Tryd.prog 4 #[.slice a0 len0 cap0] w fun e w' => e = .returned (.bool true) ∧ Since w w' := by
  obtain ⟨H0, hsz⟩ := w0
  have hlen := H0.at_.1
  have H := Lib.hid H0
  have HZ := Lib.hid hsz
  have EI := Lib.hid he
  have AL := Lib.hid (alive w he)
  have hcap := H0.at_.2
  subst hlen
  clear he hsz H0
  obtain ⟨n, hn⟩ : ∃ n, n = z0.length := ⟨_, rfl⟩
  rw [← hn] at H hcap ⊢
  have HN := Lib.hid hn
  clear hn
  go_enter Tryd.func4, Tryd.ntmps4
  go_wp2_with (go_at_call 8; (with_reducible refine AL.out.mono ?_); rintro e w1 ⟨rfl, h1⟩)
  have H1 := Lib.hid (H.out.since h1)
  go_loop [8] (fun i => ∃ k : Nat, k ≤ n ∧ k ≤ 200 ∧ i = .int .i64 (k : Int) ∧ Hid (∀ i, i < k → (z0.getD i .nil).s.size ≤ 200)) (fun i => n - (intOf i).toNat)
  case atStart => exact ⟨0, Nat.zero_le _, Nat.zero_le _, rfl, fun i hi => by omega⟩
  case round =>
    obtain ⟨k, hk, hk2, rfl, HA⟩ := hrel
    by_cases hlt : k < n
    · by_cases hbig : 200 ≤ k
      · go_wp2
        go_ret
        exact ⟨rfl, h1⟩
      obtain ⟨b, o, rfl, g1, g2, g3, g4⟩ := H1.out.el (i := k) (by have := HN.out; omega)
      have hsz := HZ.out (z0.getD k .nil) (getD_mem (by have := HN.out; omega))
      obtain ⟨t, ht⟩ : ∃ t, t = z0.getD k .nil := ⟨_, rfl⟩
      rw [← ht] at g1 g2 g3 g4 hsz
      have HT := Lib.hid ht
      clear ht
      unfold maxLen at hsz
      by_cases hb : 200 < t.s.size
      · have hz : decide ((200 : Int) < (t.s.size : Int)) = true := by rw [decide_eq_true_iff]; omega
        go_wp2
        go_ret
        exact ⟨rfl, h1⟩
      · have hz : decide ((200 : Int) < (t.s.size : Int)) = false := by rw [decide_eq_false_iff_not]; omega
        have HA2 : Hid (∀ i, i < k + 1 → (z0.getD i .nil).s.size ≤ 200) := fun i hi => by
          by_cases h : i < k
          · exact HA.out i h
          · obtain rfl : i = k := by omega
            rw [← HT.out]; omega
        go_wp2
        go_round
        case rel => exact ⟨k + 1, by omega, by omega, by go_num, HA2⟩
        case measure => simp [intOf]; omega
    · obtain rfl : k = n := by omega
      have hall := getD_all (p := fun t => t.s.size ≤ 10000) (ts := z0) (fun i hi => by have := HA.out i (by rw [HN.out]; exact hi); omega)
      have JT := Lib.hid (fun W A c (h : Toks W (.slice A k c) z0) => Lex.join_any (.slice A k c) z0 W h (by have := HN.out; omega) hall)
      have JR := Lib.hid (fun W A c (h : Toks W (.slice A k c) z0) => Ref05.join_any (.slice A k c) z0 W h (by have := HN.out; omega) hall)
      have hk3 : k ≤ 10000 := by omega
      clear hall
      generalize joinB z0 = J at *
      go_wp2_with (first
        | (go_at_call 14; (with_reducible refine (theirs_at _ _ k z0 _ H1.out hk3).mono ?_); rintro e w2 ⟨B, d, rfl, t2, h2⟩)
        | (go_at_call 13; (with_reducible refine (JT.out _ _ _ t2).mono ?_); rintro e w3 ⟨rfl, h3⟩)
        | (go_at_call 15; (with_reducible refine (JR.out _ _ _ (H1.out.since (h2.trans h3))).mono ?_); rintro e w4 ⟨rfl, rfl⟩))
      go_ret
      exact ⟨rfl, (h1.trans h2).trans h3⟩

set_option maxRecDepth 100000 in
theorem lifted (os : Os) (started : os.Started) (H : Type) (enc : TypeId × Value → H) :
    ReturnsInHanded {} Tryd.checked os 4 .any (fun w args => (Rows.lexJoinsSpec.pre enc Tryd.prog Tryd.f4 Rows.lexJoinsRow.domain false w args ∧ laidMetH Tryd.prog Rows.lexJoinsRow.laid w) ∧ sizedMet enc Tryd.prog Tryd.f4 (OpenSpec.ofChange Rows.lexJoinsSpec) false w args) (Rows.lexJoinsSpec.post enc Tryd.prog Tryd.f4 false true false false) := by
  refine returnsInHanded_of_change_and (C := Tryd.checked) (X := fun w _ => laidMetH Tryd.prog Rows.lexJoinsRow.laid w) (fun _ _ _ hh h => h.of_heap hh) own started (by kernel_rfl) Tryd.func4
    (ChangeSpec.witness_shaped (enc := enc) (C := Tryd.checked) (os := os) (X := fun w _ => laidMetH Tryd.prog Rows.lexJoinsRow.laid w) false (World.laidAll Tryd.prog os Rows.lexJoinsRow.laid) #[.slice none 0 0] 8 (World.laidAll_os _ _ _)
      (World.shaped_of_ZipB (by kernel_rfl) (by kernel_rfl)) (by kernel_rfl) (by kernel_rfl) (by kernel_rfl)
      (by rw [MakeChecks.laidMetH_plain _ _ _ (by kernel_rfl)]; exact laidMet_laidAll _ (by kernel_rfl) (by kernel_rfl))) ?_
  intro W base args ds gs before hval0 hW hcnd _ hL _
  have hval : ∀ (j : Nat) t v, Tryd.f4.params[j]? = some t → args[j]? = some v → Value.okWide Tryd.prog W .any base t v := hval0
  have hW' := hW
  obtain ⟨p, q, hA0, hV, rfl, hfz, hnd⟩ := hW
  have hA : DataW.TrodAll enc Tryd.prog W 0 (fun _ => true) true Tryd.f4.params.toList args.toList ds p := hA0
  rw [Tryd.params4] at hA hval
  obtain ⟨v0, vs0, d0, ds0, p0, q0, hargs, rfl, rfl, h0, r0⟩ := trodAll_cons hA
  obtain ⟨rfl, rfl, rfl⟩ := trodAll_nil r0
  obtain rfl : args = #[v0] := by cases args; simp_all
  obtain ⟨rfl, rfl⟩ := trodVars_none hV
  obtain ⟨a0, len0, cap0, rfl⟩ := okWide_slice Tryd.underlying27 (hval 0 27 v0 rfl rfl)
  have k0 := h0
  have lt0 : ∀ x ∈ p0, x.block < W.heap.size := by obtain ⟨m, hm⟩ := k0; exact DataW.trod_lt m _ _ _ hm
  obtain ⟨z0, w0⟩ : ∃ zs, Go.Proofs.YtbkkalmdjcpgoaaDoor.Tk.ToksIn W a0 len0 cap0 zs := by
    obtain ⟨fuel, hf⟩ := h0
    exact Go.Proofs.YtbkkalmdjcpgoaaDoor.Tk.toks_in Tryd.underlying27 Tryd.underlying34 (by kernel_rfl) rfl rfl rfl rfl (by kernel_rfl) (by kernel_rfl) (by kernel_rfl) (by kernel_rfl) Tryd.underlying3 Tryd.underlying9 Tryd.underlying2 Tryd.underlying3 hf
  clear hA0 hval0
  refine (walk a0 len0 cap0 z0 W (Go.Proofs.YtbkkalmdjcpgoaaDoor.Lex.err_of hL (by kernel_rfl) (List.mem_of_getElem? (i := 3) rfl)) w0).mono fun e W' ⟨he, bel⟩ => ?_
  subst he
  exact ⟨_, rfl, _, _, _, [], _, [], hW', trodAll_mk1 (shut_bool Tryd.underlying4 _), (trodAll_cons_mk (Below.trod laidOut (by kernel_rfl) (of_decide_eq_true (by kernel_rfl)) k0 bel lt0) trodAll_mk0), rfl, bel.frame _, fun h => by cases h⟩

theorem over : Rows.lexJoinsRow.holds Tryd.pinned (OpenSpec.ofChange Rows.lexJoinsSpec) :=
  OpenClaim.holds_of_wide 4 Tryd.f4 rfl rfl rfl rfl rfl rfl rfl ⟨rfl, rfl, rfl, rfl, rfl⟩ rfl rfl rfl rfl rfl (by kernel_rfl) Tryd.func4 (by kernel_rfl)
    (of_decide_eq_true (by kernel_rfl)) (by unfold Func.isWrapper; first | (rw [if_pos (by decide +kernel)]; kernel_rfl) | (rw [if_neg (by decide +kernel)]; exact ⟨rfl, rfl⟩))
    (fun os started H enc _ => lifted os started H enc)

/-- THE STATEMENT: the tied card -/
theorem proved : Rows.LexJoinsCardSaid :=
  Claim7.holds_tied_plain_at .later [] _ _ _ _ over (fun _ h => by cases h) (by kernel_rfl) (fun _ h => by cases h) lexJoins_row_tie rfl ⟨rfl, rfl⟩ (by kernel_rfl) rfl
    (fun f fn hf hfn => by
      obtain rfl : f = 4 := Option.some.inj ((show Tryd.prog.funcNamed "touchstone/touchstonelaw05.LexJoins" = some 4 by kernel_rfl).symm.trans hf) |>.symm
      obtain rfl : fn = Tryd.f4 := (Option.some.inj (Tryd.func4.symm.trans hfn)).symm
      exact ⟨by kernel_rfl, fun j t ht => by
        rw [Tryd.params4] at ht
        have hm : t ∈ [27] := by simpa using Array.mem_of_getElem? ht
        have hall : ([27].all fun u => !Tryd.prog.wantsStandIn u) = true := by kernel_rfl
        exact (show Tryd.prog.wantsStandIn t = false by simpa using List.all_eq_true.1 hall t hm)⟩)
    (by kernel_rfl)
#print axioms proved
end Go.Proofs.YtbkkalmdjcpgoaaDoor.lexJoins
