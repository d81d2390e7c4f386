/- Layer 10 (trail): slices.Clone of ranges; domains that are a call's own. -/
import Derived.Lib.SliceRun
import Derived.Test.YtoegbgkgenjplaaFa
import Derived.Test.YtoegbgkgenjplaaEp
namespace Go.Proofs.Ytoegbgkgenjplaa.Tr
open Go.RowKit
set_option linter.unusedVariables false
set_option linter.unusedSimpArgs false
open Go.Proofs.Ytoegbgkgenjplaa.Dig Go.Proofs.Ytoegbgkgenjplaa.Lx Go.Proofs.Ytoegbgkgenjplaa.Tk Go.Proofs.Ytoegbgkgenjplaa.Ti Go.Proofs.Ytoegbgkgenjplaa.Zs
set_option maxHeartbeats 2000000 in
theorem rclone_any (v : Value) (l : List Rn) (w : World) (h : Sl 2 QR w v l) (hl : l.length ≤ 1100000) :
    Calls Try.prog 101 #[v] w (RetF l w) := by
  have under := Try.underlying50
  have q22 : ∀ (w : World) (a : Option Addr) (n c n' c' : Nat), (binOp .eql 50 (.slice a n c) (.slice none n' c')).run Try.prog w = .ok (.bool a.isNone) w := fun w a n c n' c' => Lib.run_eql_slice_nil w _ _ a n c n' c' under
  obtain ⟨A, c, rfl⟩ := h.form
  obtain ⟨n, hn⟩ : ∃ n, n = l.length := ⟨_, rfl⟩
  rw [← hn] at h hl ⊢
  have H := Lib.hid h
  have HN := Lib.hid hn
  clear h hn
  cases A with
  | none =>
    have E := Lib.hid (show l = [] by
      apply List.eq_nil_of_length_eq_zero
      apply Decidable.byContradiction
      intro hne
      obtain ⟨A', c', e, h1, h2⟩ := H.out
      obtain ⟨b, o, e2, -⟩ := h2 (by omega)
      injection e with e3
      rw [e2] at e3; cases e3)
    go_enter Try.func101, Try.ntmps101
    go_wp2
    go_ret
    exact .none E.out (Since.refl _)
  | some a =>
    have R0 := Lib.hid (show Rw w (w.alloc (.cells #[] 49)) (.slice (some ⟨w.heap.size, 0, none⟩) 0 0) [] from ⟨World.ownsRow_made w #[] 0 (Nat.le_refl _) (Nat.zero_le _) rfl, since_alloc _ _⟩)
    go_enter Try.func101, Try.ntmps101
    go_wp2_with (at_builtin; refine wpList_appIn R0.out (Nat.zero_le _) (H.out.since stR (since_alloc _ _)) (by omega) (by rfl) _ _ rfl rfl rfl ?_; intro A2 c2 w2 h2 h3)
    go_ret
    have e : ([] : List Rn).length + n = n := Nat.zero_add n
    rw [List.nil_append, e] at h2
    exact .of rfl HN.out.symm h2
/-- domains that lie in memory of the call's own (from w1 on), and not in the row R -/
def NewD (w1 : World) (R : Value) (w : World) (d : List Rn) (u : List Value) : Prop := ∃ v, u = [v] ∧ Sl 2 QR w v d ∧ ∀ b, v.ownBlock = some b → w1.heap.size ≤ b ∧ b < w.heap.size ∧ R.ownBlock ≠ some b ∧ ∀ j, w.frozen? ⟨b, j, none⟩ = false
theorem NewD.since {w1 w w' : World} {R : Value} {d : List Rn} {u : List Value} (h : NewD w1 R w d u) (k : Since w w') : NewD w1 R w' d u := by
  obtain ⟨v, h1, h2, h3⟩ := h
  exact ⟨v, h1, h2.since stR k, fun b hb => ⟨(h3 b hb).1, Nat.lt_of_lt_of_le (h3 b hb).2.1 k.size, (h3 b hb).2.2.1, fun j => (World.frozen?_of_block (w := w) (a := ⟨b, j, none⟩) (k.block b (h3 b hb).2.1)).trans ((h3 b hb).2.2.2 j)⟩⟩
theorem NewD.app {w1 w w' : World} {R R' : Value} {d : List Rn} {u : List Value} (h : NewD w1 R w d u) (k : Wide R R' w w') : NewD w1 R' w' d u := by
  obtain ⟨v, h1, h2, h3⟩ := h
  refine ⟨v, h1, Sl.kept (G := fun b => R.ownBlock = some b) (Q := QR) (Q' := QR) k.1 (fun b hb => hb) (fun _ _ h => h) h2 ?_, fun b hb => ⟨(h3 b hb).1, Nat.lt_of_lt_of_le (h3 b hb).2.1 k.1.size, fun e => ?_, fun j => (World.frozen?_of_block (w := w) (a := ⟨b, j, none⟩) (k.1.block b (h3 b hb).2.1 (fun e => (h3 b hb).2.2.1 e.symm))).trans ((h3 b hb).2.2.2 j)⟩⟩
  · rintro b o n c rfl hn e
    exact (h3 b rfl).2.2.1 e
  · rcases k.2 with e2 | e2
    · exact (h3 b hb).2.2.1 (e2 ▸ e)
    · rw [e] at e2
      injection e2 with e2
      have := (h3 b hb).2.1
      omega
end Go.Proofs.Ytoegbgkgenjplaa.Tr
