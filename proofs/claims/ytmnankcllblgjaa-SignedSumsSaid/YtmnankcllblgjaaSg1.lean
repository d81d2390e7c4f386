/- What Right and number of package signed give back, and the library's Clone of digits. -/
import Derived.Test.YtmnankcllblgjaaZ3
import Derived.Test.YtmnankcllblgjaaN2a
import Derived.Lib.SliceRun
import Derived.Laws.AppendOwn
import Derived.OwnWalk
namespace Go.Proofs.Ytmnankcllblgjaa.Sg03
open Go.RowKit
set_option linter.unusedVariables false
open Go.Proofs.Ytmnankcllblgjaa.Dig
open Go.Proofs.Ytmnankcllblgjaa.Ref03

theorem right_any (m : Value) (neg : Bool) (ds : List Nat) (w : World) (h : Row w m ds) (hl : ds.length ≤ 10000) :
    Calls Try.prog 16 #[sv neg m] w fun e w' => e = .returned (.bool (srightB neg ds)) ∧ Since w w' := by
  have H := Lib.hid h
  have HL := Lib.hid hl
  obtain ⟨_, A, c, rfl, _, -⟩ := h
  by_cases r : rightB ds = true
  · cases neg
    · have e : srightB false ds = true := by simp [srightB, r]
      rw [e]
      clear e
      go_enter Try.func16, Try.ntmps16
      go_wp2_with (go_at_call 41; (with_reducible refine (Nat02.right_yes (.slice A ds.length c) ds _ (H.out.since ((Since.refl _).alloc _)) (by have := HL.out; omega)).mono ?_); rintro e w1 ⟨rfl, rfl⟩)
      go_ret
      exact ⟨rfl, (Since.refl _).alloc _⟩
    · by_cases h0 : ds.length = 0
      · have e : srightB true ds = false := by simp [srightB, h0]
        rw [e]
        have hz : ((ds.length : Int) == 0) = true := by rw [beq_iff_eq]; omega
        clear e h0
        go_enter Try.func16, Try.ntmps16
        go_wp2_with (go_at_call 41; (with_reducible refine (Nat02.right_yes (.slice A ds.length c) ds _ (H.out.since ((Since.refl _).alloc _)) (by have := HL.out; omega)).mono ?_); rintro e w1 ⟨rfl, rfl⟩)
        go_ret
        exact ⟨rfl, (Since.refl _).alloc _⟩
      · have e : srightB true ds = true := by simp [srightB, r]; intro h; exact h0 (by rw [h]; rfl)
        rw [e]
        have hz : ((ds.length : Int) == 0) = false := by rw [beq_eq_false_iff_ne]; omega
        clear e h0
        go_enter Try.func16, Try.ntmps16
        go_wp2_with (go_at_call 41; (with_reducible refine (Nat02.right_yes (.slice A ds.length c) ds _ (H.out.since ((Since.refl _).alloc _)) (by have := HL.out; omega)).mono ?_); rintro e w1 ⟨rfl, rfl⟩)
        go_ret
        exact ⟨rfl, (Since.refl _).alloc _⟩
  · have r' : rightB ds = false := by simpa using r
    have e : srightB neg ds = false := by simp [srightB, r']
    rw [e]
    clear e r
    go_enter Try.func16, Try.ntmps16
    go_wp2_with (go_at_call 41; (with_reducible refine (Nat02.right_yes (.slice A ds.length c) ds _ (H.out.since ((Since.refl _).alloc _)) (by have := HL.out; omega)).mono ?_); rintro e w1 ⟨rfl, rfl⟩)
    go_ret
    exact ⟨rfl, (Since.refl _).alloc _⟩
theorem number_any (m : Value) (neg : Bool) (ds : List Nat) (w : World) (h : Row w m ds) (hl : ds.length ≤ 1000000) :
    Calls Try.prog 44 #[.bool neg, m] w fun e w' => e = .returned (sv (signB neg ds) m) ∧ Since w w' := by
  obtain ⟨_, A, c, rfl, _, -⟩ := h
  cases neg
  · go_enter Try.func44, Try.ntmps44
    go_wp2
    exact bodyPost_ret (v := sv (signB false ds) (.slice A ds.length c)) (by simp [results, Try.results44, go_sem, signB]) rfl ⟨rfl, by repeat (first | exact Since.refl _ | refine Since.alloc ?_ _ | refine Since.set ?_ (by first | exact Nat.le_refl _ | simp) _)⟩
  · by_cases h0 : 0 < ds.length
    · have e : signB true ds = true := by simp [signB, h0]
      rw [e]
      clear e
      go_enter Try.func44, Try.ntmps44
      go_wp2
      exact bodyPost_ret (v := sv true (.slice A ds.length c)) (by simp [results, Try.results44, go_sem]) rfl ⟨rfl, by repeat (first | exact Since.refl _ | refine Since.alloc ?_ _ | refine Since.set ?_ (by first | exact Nat.le_refl _ | simp) _)⟩
    · have e : signB true ds = false := by simp only [signB, Bool.true_and]; exact decide_eq_false h0
      rw [e]
      have hz : decide (0 < (ds.length : Int)) = false := by rw [decide_eq_false_iff_not]; omega
      clear e
      go_enter Try.func44, Try.ntmps44
      go_wp2
      exact bodyPost_ret (v := sv false (.slice A ds.length c)) (by simp [results, Try.results44, go_sem]) rfl ⟨rfl, by repeat (first | exact Since.refl _ | refine Since.alloc ?_ _ | refine Since.set ?_ (by first | exact Nat.le_refl _ | simp) _)⟩

theorem info_u32 : (Try.prog.info? 59).map (fun i => (i.zero, i.size, i.bytes)) = some (some (.int .u32 0), 1, 4) := by kernel_rfl
theorem under_row : Try.prog.underlying 22 = some (.slice 59) := by kernel_rfl
set_option maxHeartbeats 2000000 in
set_option maxRecDepth 100000 in
theorem clone_some (a : Addr) (c : Nat) (ds : List Nat) (w : World) (h : Row w (.slice (some a) ds.length c) ds) (hl : ds.length ≤ 10000) :
    Calls Try.prog 55 #[.slice (some a) ds.length c] w (RetRow ds w) := by
  obtain ⟨i0, hi, hz0, hz1, hz2⟩ := info_parts info_u32
  have under := under_row
  have q22 : ∀ (w : World) (a : Option Addr) (n c n' c' : Nat), (binOp .eql 22 (.slice a n c) (.slice none n' c')).run Try.prog w = .ok (.bool a.isNone) w := fun w a n c n' c' => Lib.run_eql_slice_nil w _ _ a n c n' c' under
  have A := Lib.hid h
  have HD := Lib.hid h.dig
  have HL := Lib.hid hl
  clear h hl
  go_enter Try.func55, Try.ntmps55
  go_wp2_with (at_builtin; refine wpList_append_own _ rfl _ _ 22 rfl w.heap.size 59 i0 (.int .u32 0) 1 4 under hi hz0 hz1 hz2 rfl (by decide) _ _ _ rfl (World.ownsRow_made w #[] 0 (Nat.le_refl _) (Nat.zero_le _) rfl) a ds.length c (u32s ds) rfl ?qc1 ?qc2 ?qc3 ?qc4 ?qc5 ?qc6 ?_)
  case qc1 => simp [u32s]
  case qc2 =>
    intro j u hj
    have hjn : j < ds.length := by
      have := (List.getElem?_eq_some_iff.1 hj).1
      simpa [u32s] using this
    obtain ⟨_, A', c', e', h3, _⟩ := A.out
    obtain ⟨b, o, e2, h4⟩ := h3 (by omega)
    injection e' with e1 e3 e4
    rw [e2] at e1
    injection e1 with e5
    subst e5
    rw [add_block]
    refine Lib.cell?_alloc_some _ ?_
    rw [h4 j hjn]
    have e : (u32s ds)[j]? = some (Value.int .u32 ((ds.getD j 0 : Nat) : Int)) := by simp [u32s, List.getD, List.getElem?_eq_getElem hjn]
    rw [e] at hj
    exact hj
  case qc3 => intro u hu; simp only [u32s, List.mem_map] at hu; obtain ⟨x, _, rfl⟩ := hu; rfl
  case qc4 => have := HL.out; unfold maxLen; omega
  case qc5 => have := HL.out; omega
  case qc6 => simp
  intro v' w1 hown hgrow hnil
  go_wp2
  go_ret
  refine ⟨v', rfl, Row.own HD.out (by simpa using hown), ?_⟩
  exact ((Below.refl _ w).alloc (Nat.le_refl _) _).grown hgrow (by simp) (by intro k hk; simp [Value.ownBlock] at hk; omega)
set_option maxHeartbeats 1000000 in
theorem clone_none (n c : Nat) (w : World) :
    Calls Try.prog 55 #[.slice none n c] w (RetRow [] w) := by
  have under := under_row
  have q22 : ∀ (w : World) (a : Option Addr) (n c n' c' : Nat), (binOp .eql 22 (.slice a n c) (.slice none n' c')).run Try.prog w = .ok (.bool a.isNone) w := fun w a n c n' c' => Lib.run_eql_slice_nil w _ _ a n c n' c' under
  go_enter Try.func55, Try.ntmps55
  go_wp2
  go_ret
  exact ⟨_, rfl, Row.nil _, Since.refl _⟩
theorem clone_any (v : Value) (ds : List Nat) (w : World) (h : Row w v ds) (hl : ds.length ≤ 10000) :
    Calls Try.prog 55 #[v] w (RetSl ds w) := by
  have h0 := h
  obtain ⟨_, A, c, rfl, h3, _⟩ := h0
  cases A with
  | some a => exact (clone_some a c ds w h hl).mono fun _ _ k => RetRow.sl k
  | none =>
    have e : ds = [] := by
      apply List.eq_nil_of_length_eq_zero
      apply Decidable.byContradiction
      intro hn
      obtain ⟨b, o, e, _⟩ := h3 (by omega)
      cases e
    subst e
    exact (clone_none _ c w).mono fun _ _ k => RetRow.sl k

end Go.Proofs.Ytmnankcllblgjaa.Sg03
