/-
  For all slices of 64-bit numbers a and b: the law CheckDots returns true (Dot answers as the document does, where neither is longer than 1000) and leaves both as they were. No condition.
-/
import Derived.Test.YtodianconjkpoaaRows
import Derived.WalkKit
import Derived.ProofKit
import Derived.OpenShut
import Derived.ShutString
import Derived.ChangeOld
import Derived.Below
import Derived.Test.YtodianconjkpoaaAlive01
namespace Go.Proofs.Ytodianconjkpoaa.checkDots
open Go.ChangeShapes Go.WideShapes Go.ChangeAt Go.RowKit
open Go.ChangeMaps (open_string shut_string)
open Go.Proofs.Ytodianconjkpoaa.Num
open Go.Proofs.Ytodianconjkpoaa.Chk (Drew)
set_option linter.unusedVariables false

theorem own : ownKnob Try.prog.godebug = none := by kernel_rfl
theorem laidOut : laidOutB Try.prog = true := by kernel_rfl

/-- WHAT THE WALK IS TOLD OF A SLICE OF INTEGERS THAT CAME IN: it is nil; or it leads to a row of 'cap' cells, the numbers 'zs' (the first 'len' are its elements, the rest its spare room), each fitting its kind. -/
def IsRow (k : IntKind) (w : World) (a : Option Addr) (len cap : Nat) (zs : List Int) : Prop :=
  (a = none ∧ len = 0 ∧ cap = 0 ∧ zs = []) ∨
  ∃ x, a = some x ∧ len ≤ cap ∧ cap ≤ maxLen ∧ zs.length = cap ∧ (∀ i, i < zs.length → w.cell? (x.add i) = some (.int k (zs.getD i 0))) ∧ ∀ n ∈ zs, (Lit.int k n).wf = true

theorem row_later {k : IntKind} {w w' : World} {b o : Nat} {zs : List Int} (h : Since w w') (hc : ∀ i, i < zs.length → w.cell? ⟨b, o + i, none⟩ = some (.int k (zs.getD i 0))) (i : Nat) (hi : i < zs.length) :
    w'.cell? ⟨b, o + i, none⟩ = some (.int k (zs.getD i 0)) :=
  (Below.cell h (World.block_lt_of_cell? _ _ (hc i hi))).trans (hc i hi)
theorem row_fits {zs : List Int} (hw : ∀ n ∈ zs, (Lit.int .i64 n).wf = true) (k : Nat) (hk : k < zs.length) : fits (zs.getD k 0) = true := by
  have e : zs.getD k 0 = zs[k] := by simp [List.getD, hk]
  rw [e]; exact fits_wf (hw _ (List.getElem_mem hk))

theorem walk (a0 : Option Addr) (len0 cap0 : Nat) (z0 : List Int) (a1 : Option Addr) (len1 cap1 : Nat) (z1 : List Int) (w : World) (w0 : IsRow .i64 w a0 len0 cap0 z0) (w1 : IsRow .i64 w a1 len1 cap1 z1) :
    Calls Try.prog 6 #[.slice a0 len0 cap0, .slice a1 len1 cap1] w fun e w' => e = .returned (.bool true) ∧ Since w w' := by
  by_cases g0 : 1000 < len0
  · go_enter Try.func6, Try.ntmps6
    go_wp2_with (go_at_call 10; refine (Alive01.true_any _).mono ?_; rintro e v1 ⟨rfl, hv1⟩)
    go_ret
    exact ⟨rfl, ‹_›⟩
  by_cases g1 : 1000 < len1
  · go_enter Try.func6, Try.ntmps6
    go_wp2_with (go_at_call 10; refine (Alive01.true_any _).mono ?_; rintro e v1 ⟨rfl, hv1⟩)
    go_ret
    exact ⟨rfl, ‹_›⟩
  by_cases g2 : len0 = len1
  · subst g2
    by_cases g3 : len0 = 0
    · subst g3
      go_enter Try.func6, Try.ntmps6
      go_wp2_with (first
        | (go_at_call 10; refine (Alive01.true_any _).mono ?_; rintro e v1 ⟨rfl, hv1⟩)
        | (go_at_call 21; refine (Dots.code_none _ _ _ _ _).mono ?_; rintro e v2 ⟨rfl, hv2⟩)
        | (go_at_call 22; refine (Dots.doc_none _ _ _ _ _).mono ?_; rintro e v3 ⟨rfl, hv3⟩))
      go_ret
      exact ⟨rfl, (Since.trans ‹Since w _› (since_drew ‹_›)).trans (since_drew ‹_›)⟩
    · rcases w0 with ⟨rfl, h, _, _⟩ | ⟨x0, rfl, hl0, hm0, hz0, hc0, hw0⟩
      · exact absurd h g3
      rcases w1 with ⟨rfl, h, _, _⟩ | ⟨x1, rfl, hl1, hm1, hz1, hc1, hw1⟩
      · exact absurd h g3
      obtain ⟨b0, o0, rfl, hd0⟩ := ints_at hc0 (by omega)
      obtain ⟨b1, o1, rfl, hd1⟩ := ints_at hc1 (by omega)
      have HC0 := Lib.hid (And.intro hd0 (row_fits hw0))
      have HC1 := Lib.hid (And.intro hd1 (row_fits hw1))
      clear hc0 hc1 hw0 hw1 hd0 hd1
      have HL := Lib.hid (show len0 ≤ z0.length ∧ len0 ≤ z1.length by omega)
      clear hz0 hz1
      go_enter Try.func6, Try.ntmps6
      go_wp2_with (first
        | (go_at_call 10; refine (Alive01.true_any _).mono ?_; rintro e v1 ⟨rfl, hv1⟩)
        | (go_at_call 21; refine (Dots.code_row b0 o0 _ b1 o1 _ len0 (fun k => z0.getD k 0) (fun k => z1.getD k 0) _ (by omega) (fun k hk => ⟨HC0.out.2 k (by have := HL.out; omega), row_later hv1 HC0.out.1 k (by have := HL.out; omega)⟩) (fun k hk => ⟨HC1.out.2 k (by have := HL.out; omega), row_later hv1 HC1.out.1 k (by have := HL.out; omega)⟩)).mono ?_; rintro e v2 ⟨rfl, hv2⟩)
        | (go_at_call 22; refine (Dots.doc_row b0 o0 _ b1 o1 _ len0 (fun k => z0.getD k 0) (fun k => z1.getD k 0) _ (by omega) (fun k hk => ⟨HC0.out.2 k (by have := HL.out; omega), row_later (hv1.trans (since_drew hv2)) HC0.out.1 k (by have := HL.out; omega)⟩) (fun k hk => ⟨HC1.out.2 k (by have := HL.out; omega), row_later (hv1.trans (since_drew hv2)) HC1.out.1 k (by have := HL.out; omega)⟩)).mono ?_; rintro e v3 ⟨rfl, hv3⟩))
      go_ret
      exact ⟨rfl, (Since.trans ‹Since w _› (since_drew ‹_›)).trans (since_drew ‹_›)⟩
  · go_enter Try.func6, Try.ntmps6
    go_wp2_with (first
      | (go_at_call 10; refine (Alive01.true_any _).mono ?_; rintro e v1 ⟨rfl, hv1⟩)
      | (go_at_call 21; refine (Dots.code_long _ _ _ _ _ _ (by assumption) _).mono ?_; rintro e v2 ⟨rfl, hv2⟩)
      | (go_at_call 22; refine (Dots.doc_long _ _ _ _ _ _ (by assumption) _).mono ?_; rintro e v3 ⟨rfl, hv3⟩))
    go_ret
    exact ⟨rfl, (Since.trans ‹Since w _› (since_drew ‹_›)).trans (since_drew ‹_›)⟩

set_option maxRecDepth 100000 in
theorem lifted (os : Os) (started : os.Started) (H : Type) (enc : TypeId × Value → H) :
    ReturnsInHanded {} Try.checked os 6 .any (Rows.checkDotsSpec.pre6 enc Try.prog Try.f6 Rows.checkDotsRow.domain false) (Rows.checkDotsSpec.post enc Try.prog Try.f6 false true false false) := by
  refine returnsInHanded_of_change (C := Try.checked) own started (by kernel_rfl) Try.func6
    (ChangeSpec.witness6 (enc := enc) (C := Try.checked) false ⟨#[], #[.slice none 0 0, .slice none 0 0], []⟩ 8 (by kernel_rfl) (by kernel_rfl) (by kernel_rfl) (by kernel_rfl)) ?_
  intro W base args ds gs before hval0 hW hcnd _
  have hval : ∀ (j : Nat) t v, Try.f6.params[j]? = some t → args[j]? = some v → Value.okWide Try.prog W .any base t v := hval0
  have hW' := hW
  obtain ⟨p, q, hA0, hV, rfl, hfz, hnd⟩ := hW
  have hA : DataW.TrodAll enc Try.prog W 0 (fun _ => true) true Try.f6.params.toList args.toList ds p := hA0
  rw [Try.params6] at hA hval
  obtain ⟨v0, vs0, d0, ds0, p0, q0, hargs, rfl, rfl, h0, r0⟩ := trodAll_cons hA
  obtain ⟨v1, vs1, d1, ds1, p1, q1, rfl, rfl, rfl, h1, r1⟩ := trodAll_cons r0
  obtain ⟨rfl, rfl, rfl⟩ := trodAll_nil r1
  obtain rfl : args = #[v0, v1] := by cases args; simp_all
  obtain ⟨rfl, rfl⟩ := trodVars_none hV
  obtain ⟨a0, len0, cap0, rfl⟩ := okWide_slice Try.underlying29 (hval 0 29 v0 rfl rfl)
  have k0 := h0
  have lt0 : ∀ x ∈ p0, x.block < W.heap.size := by obtain ⟨m, hm⟩ := k0; exact DataW.trod_lt m _ _ _ hm
  obtain ⟨z0, w0⟩ : ∃ zs, IsRow .i64 W a0 len0 cap0 zs := by
    obtain ⟨fuel, hf⟩ := h0
    rcases open_ints Try.underlying29 Try.underlying2 (by kernel_rfl) hf with ⟨hcs, _⟩ | ⟨x, l, c, zs, hcs, _, hl, hm, hz, _, hcell, hwz⟩
    · simp [Value.cells] at hcs
      obtain ⟨rfl, rfl, rfl⟩ := hcs
      exact ⟨[], .inl ⟨rfl, rfl, rfl, rfl⟩⟩
    · simp [Value.cells] at hcs
      obtain ⟨rfl, rfl, rfl⟩ := hcs
      exact ⟨zs, .inr ⟨_, rfl, hl, hm, by simpa using hz, hcell, hwz⟩⟩
  obtain ⟨a1, len1, cap1, rfl⟩ := okWide_slice Try.underlying29 (hval 1 29 v1 rfl rfl)
  have k1 := h1
  have lt1 : ∀ x ∈ p1, x.block < W.heap.size := by obtain ⟨m, hm⟩ := k1; exact DataW.trod_lt m _ _ _ hm
  obtain ⟨z1, w1⟩ : ∃ zs, IsRow .i64 W a1 len1 cap1 zs := by
    obtain ⟨fuel, hf⟩ := h1
    rcases open_ints Try.underlying29 Try.underlying2 (by kernel_rfl) hf with ⟨hcs, _⟩ | ⟨x, l, c, zs, hcs, _, hl, hm, hz, _, hcell, hwz⟩
    · simp [Value.cells] at hcs
      obtain ⟨rfl, rfl, rfl⟩ := hcs
      exact ⟨[], .inl ⟨rfl, rfl, rfl, rfl⟩⟩
    · simp [Value.cells] at hcs
      obtain ⟨rfl, rfl, rfl⟩ := hcs
      exact ⟨zs, .inr ⟨_, rfl, hl, hm, by simpa using hz, hcell, hwz⟩⟩
  clear hA0 hval0
  refine (walk a0 len0 cap0 z0 a1 len1 cap1 z1 W w0 w1).mono fun e W' ⟨he, bel⟩ => ?_
  subst he
  exact ⟨_, rfl, _, _, _, [], _, [], hW', trodAll_mk1 (shut_bool Try.underlying4 _), (trodAll_cons_mk (Below.trod laidOut (by kernel_rfl) (of_decide_eq_true (by kernel_rfl)) k0 bel lt0) (trodAll_cons_mk (Below.trod laidOut (by kernel_rfl) (of_decide_eq_true (by kernel_rfl)) k1 bel lt1) trodAll_mk0)), rfl, bel.frame _, fun h => by cases h⟩

theorem over : Rows.checkDotsRow.holds Try.pinned (OpenSpec.ofChange Rows.checkDotsSpec) :=
  OpenClaim.holds_of_wide 6 Try.f6 rfl rfl rfl rfl rfl rfl rfl ⟨rfl, rfl, rfl, rfl, rfl⟩ rfl rfl rfl rfl rfl (by kernel_rfl) Try.func6 (by kernel_rfl)
    (of_decide_eq_true (by kernel_rfl)) (by unfold Func.isWrapper; first | (rw [if_pos (by decide +kernel)]; kernel_rfl) | (rw [if_neg (by decide +kernel)]; exact ⟨rfl, rfl⟩))
    (fun os started H enc _ => lifted os started H enc)

/-- THE STATEMENT -/
theorem proved : Rows.CheckDotsSaid := over
#print axioms proved
end Go.Proofs.Ytodianconjkpoaa.checkDots
