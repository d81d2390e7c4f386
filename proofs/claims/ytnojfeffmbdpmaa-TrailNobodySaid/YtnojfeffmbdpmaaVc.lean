/- Layer 10 (trail): slices.Clone of ranges; the landed copied. -/
import Derived.Test.YtnojfeffmbdpmaaVa
import Derived.Test.YtnojfeffmbdpmaaEp
import Derived.Lib.SliceRun
import Derived.Test.YtnojfeffmbdpmaaFe
import Derived.Test.YtnojfeffmbdpmaaFi
namespace Go.Proofs.Ytnojfeffmbdpmaa.Tr
open Go.RowKit
set_option linter.unusedVariables false
set_option linter.unusedSimpArgs false
open Go.Proofs.Ytnojfeffmbdpmaa.Dig Go.Proofs.Ytnojfeffmbdpmaa.Lx Go.Proofs.Ytnojfeffmbdpmaa.Tk Go.Proofs.Ytnojfeffmbdpmaa.Ti Go.Proofs.Ytnojfeffmbdpmaa.Zs

set_option maxHeartbeats 2000000 in
theorem rclone_any (v : Value) (l : List Rn) (w : World) (h : Sl 2 QR w v l) (hl : l.length ≤ 1100000) :
    Calls Try.prog 39 #[v] w (RetF l w) := by
  have under := Try.underlying33
  have q22 : ∀ (w : World) (a : Option Addr) (n c n' c' : Nat), (binOp .eql 33 (.slice a n c) (.slice none n' c')).run Try.prog w = .ok (.bool a.isNone) w := fun w a n c n' c' => Lib.run_eql_slice_nil w _ _ a n c n' c' under
  obtain ⟨A, c, rfl⟩ := h.form
  obtain ⟨n, hn⟩ : ∃ n, n = l.length := ⟨_, rfl⟩
  rw [← hn] at h hl ⊢
  have H := Lib.hid h
  have HN := Lib.hid hn
  clear h hn
  cases A with
  | none =>
    have E := Lib.hid (show l = [] by
      apply List.eq_nil_of_length_eq_zero
      apply Decidable.byContradiction
      intro hne
      obtain ⟨A', c', e, h1, h2⟩ := H.out
      obtain ⟨b, o, e2, -⟩ := h2 (by omega)
      injection e with e3
      rw [e2] at e3; cases e3)
    go_enter Try.func39, Try.ntmps39
    go_wp2
    go_ret
    exact .none E.out (Since.refl _)
  | some a =>
    have R0 := Lib.hid (show Rw w (w.alloc (.cells #[] 65)) (.slice (some ⟨w.heap.size, 0, none⟩) 0 0) [] from ⟨World.ownsRow_made w #[] 0 (Nat.le_refl _) (Nat.zero_le _) rfl, since_alloc _ _⟩)
    go_enter Try.func39, Try.ntmps39
    go_wp2_with (at_builtin; refine wpList_appIn R0.out (Nat.zero_le _) (H.out.since stR (since_alloc _ _)) (by omega) (by rfl) _ _ rfl rfl rfl ?_; intro A2 c2 w2 h2 h3)
    go_ret
    have e : ([] : List Rn).length + n = n := Nat.zero_add n
    rw [List.nil_append, e] at h2
    exact .of rfl HN.out.symm h2
/-- domains that lie in memory of the call's own (from w1 on), and not in the row R -/
def NewD (w1 : World) (R : Value) (w : World) (d : List Rn) (u : List Value) : Prop := ∃ v, u = [v] ∧ Sl 2 QR w v d ∧ ∀ b, v.ownBlock = some b → w1.heap.size ≤ b ∧ b < w.heap.size ∧ R.ownBlock ≠ some b ∧ ∀ j, w.frozen? ⟨b, j, none⟩ = false
theorem NewD.since {w1 w w' : World} {R : Value} {d : List Rn} {u : List Value} (h : NewD w1 R w d u) (k : Since w w') : NewD w1 R w' d u := by
  obtain ⟨v, h1, h2, h3⟩ := h
  exact ⟨v, h1, h2.since stR k, fun b hb => ⟨(h3 b hb).1, Nat.lt_of_lt_of_le (h3 b hb).2.1 k.size, (h3 b hb).2.2.1, fun j => (World.frozen?_of_block (w := w) (a := ⟨b, j, none⟩) (k.block b (h3 b hb).2.1)).trans ((h3 b hb).2.2.2 j)⟩⟩
theorem NewD.app {w1 w w' : World} {R R' : Value} {d : List Rn} {u : List Value} (h : NewD w1 R w d u) (k : Wide R R' w w') : NewD w1 R' w' d u := by
  obtain ⟨v, h1, h2, h3⟩ := h
  refine ⟨v, h1, Sl.kept (G := fun b => R.ownBlock = some b) (Q := QR) (Q' := QR) k.1 (fun b hb => hb) (fun _ _ h => h) h2 ?_, fun b hb => ⟨(h3 b hb).1, Nat.lt_of_lt_of_le (h3 b hb).2.1 k.1.size, fun e => ?_, fun j => (World.frozen?_of_block (w := w) (a := ⟨b, j, none⟩) (k.1.block b (h3 b hb).2.1 (fun e => (h3 b hb).2.2.1 e.symm))).trans ((h3 b hb).2.2.2 j)⟩⟩
  · rintro b o n c rfl hn e
    exact (h3 b rfl).2.2.1 e
  · rcases k.2 with e2 | e2
    · exact (h3 b hb).2.2.1 (e2 ▸ e)
    · rw [e] at e2
      injection e2 with e2
      have := (h3 b hb).2.1
      omega
/-- a row of domains of the call's own: row and domains from w1 on -/
def RetDs (ds : Ds) (w1 : World) (e : Ending) (w' : World) : Prop := ∃ v cs, e = .returned v ∧ w'.ownsRow w1.heap.size 33 1 v ds.length cs ∧ Rws 1 (NewD w1 v w') ds cs ∧ Since w1 w'
set_option maxRecDepth 20000 in
set_option maxHeartbeats 2000000 in
theorem copied_any (v : Value) (ds : Ds) (w : World) (h : Sl 1 QD w v ds) (hl : ds.length ≤ 100000) (hd : ∀ d ∈ ds, d.length ≤ 1100000) :
    Calls Try.prog 31 #[v] w (RetDs ds w) := by
  obtain ⟨A, c, rfl⟩ := h.form
  obtain ⟨n, hn⟩ : ∃ n, n = ds.length := ⟨_, rfl⟩
  rw [← hn] at h hl ⊢
  have H := Lib.hid h
  have HN := Lib.hid hn
  have HD := Lib.hid hd
  clear h hn hd
  go_enter Try.func31, Try.ntmps31
  go_wp2
  go_loopw [3, 8] (fun s i wr => ∃ (k : Nat) (B : Option Addr) (cB : Nat) (xs : Ds), i = .int .i64 (k : Int) ∧ s = .slice B k cB ∧ k ≤ n ∧ Hid (xs = ds.take k) ∧ Hid (xs.length = k) ∧ Hid (Rq 33 (NewD w (.slice B k cB) wr) w wr (.slice B k cB) xs)) (fun _ i _ => n - (intOf i).toNat)
  case atStart => exact ⟨0, none, 0, [], rfl, rfl, Nat.zero_le _, rfl, rfl, Rq.nil _ _ (Since.refl _)⟩
  case round =>
    obtain ⟨k, B, cB, xs, rfl, rfl, hk, HX, HL, HR⟩ := hrel
    by_cases hkn : k < n
    · have hkl : k < ds.length := by have := HN.out; omega
      obtain ⟨g, o, B', d, rfl, hS, e0⟩ := elD (H.out.since stD HR.out.s) hkl
      have T := Lib.hid (List.take_succ_eq_append_getElem hkl)
      have hdl := HD.out _ (List.getElem_mem hkl)
      generalize ds[k] = y at *
      obtain ⟨p, hp⟩ : ∃ p, p = y.length := ⟨_, rfl⟩
      rw [← hp] at e0 hS hdl
      have CL := Lib.hid (rclone_any _ y wr hS (by omega))
      have hl9 : xs.length ≤ 1000000 := by have := HL.out; omega
      have UP := Lib.hid (fun (w2 : World) (k2 : Since wr w2) (box : Obj) => show Rq 33 (NewD w (.slice B k cB) (w2.alloc box)) w (w2.alloc box) (.slice B k cB) xs from (let ⟨cs, q1, q2, q3⟩ := HR.out; ⟨cs, owns_since q1 (k2.trans (since_alloc _ _)), q2.mono fun x u hu => NewD.since hu (k2.trans (since_alloc _ _)), q3.trans (k2.trans (since_alloc _ _))⟩))
      have NE := Lib.hid (fun b (hb : (Value.slice B k cB).ownBlock = some b) => show b < wr.heap.size from (HR.out.lt b hb).2)
      clear hS hkl hp
      go_wp2_with (first
        | (go_at_call 39; (with_reducible refine (CL.out).mono ?_); rintro e w2 ⟨A2, m2, c2, rfl, hm2, hS2, k2, hf2⟩; have HM := Lib.hid hm2; have HS := Lib.hid hS2; have HF := Lib.hid hf2; clear hm2 hS2 hf2)
        | (at_builtin; refine wpList_appW kD (UP.out w2 k2 _) hl9 y (.slice A2 m2 c2) ⟨_, rfl, HS.out.since stR (since_alloc _ _), fun b hb => ⟨Nat.le_trans HR.out.s.size (HF.out b hb).1, Nat.lt_of_lt_of_le (HF.out b hb).2.1 (since_alloc _ _).size, (fun e => by have h1 := NE.out b e; have h2 := (HF.out b hb).1; omega), fun j => (World.frozen?_of_block (w := w2) (a := ⟨b, j, none⟩) ((since_alloc _ _).block b (HF.out b hb).2.1)).trans ((HF.out b hb).2.2 j)⟩⟩ rfl w2.heap.size 1 ((Bx.fresh w2 _ _).cell 0) (by rfl) _ _ rfl rfl rfl ?_; intro A3 c3 w3 h3 q3))
      go_roundw
      case rel =>
        obtain ⟨cs, q1, q2, q4⟩ := h3
        have h5 : Rq 33 (NewD w (.slice A3 (xs.length + 1) c3) w3) w w3 (.slice A3 (xs.length + 1) c3) (xs ++ [y]) := ⟨cs, q1, q2.mono fun x u hu => NewD.app hu q3, q4⟩
        rw [HL.out] at h5
        exact ⟨k + 1, A3, c3, xs ++ [y], by go_num, by rw [HL.out], by omega, Lib.hid (by rw [HX.out]; exact T.out.symm), Lib.hid (by rw [List.length_append, HL.out]; rfl), Lib.hid h5⟩
      case measure => simp [intOf]; omega
    · obtain rfl : k = n := by omega
      have HE := Lib.hid (show xs = ds by rw [HX.out, List.take_of_length_le (by have := HN.out; omega)])
      go_wp2
      go_ret
      obtain ⟨cs, q1, q2, q3⟩ := HR.out
      have e := HE.out
      subst e
      rw [HL.out] at q1
      exact ⟨_, cs, rfl, by rw [HL.out]; exact q1, q2, q3⟩
end Go.Proofs.Ytnojfeffmbdpmaa.Tr
