/- What the document's own Neg and Text of layer 3 give back. -/
import Derived.Test.YtbkkalmdjcpgoaaDoorRef03r
namespace Go.Proofs.YtbkkalmdjcpgoaaDoor.Ref03
open Go.RowKit
set_option linter.unusedVariables false
open Go.Proofs.YtbkkalmdjcpgoaaDoor.Dig

set_option maxRecDepth 100000 in
set_option maxHeartbeats 1000000 in
theorem neg_any (A0 : Option Addr) (c0 : Nat) (na : Bool) (xs : List Nat) (w : World) (hx : Row w (.slice A0 xs.length c0) xs) (lx : xs.length ≤ 1000) :
    Calls Tryd.prog 39 #[sv na (.slice A0 xs.length c0)] w (RetZ (negZ na xs) w) := by
  have H := Lib.hid hx
  have LL := Lib.hid lx
  have dx := hx.dig
  have HD := Lib.hid dx
  obtain ⟨W0, hW0⟩ : ∃ W0, W0 = (w.alloc (.cells #[.bool na, .slice A0 xs.length c0] 65)).alloc (.cells #[.bool false, .slice none 0 0] 65) := ⟨_, rfl⟩
  have HW := Lib.hid hW0
  have hold : Hid (∀ W : World, Since W0 W → (W.cell? ⟨w.heap.size, 0, none⟩ = some (.bool na) ∧ W.cell? ⟨w.heap.size, 1, none⟩ = some (.slice A0 xs.length c0))) := fun W h => hold1of (hW0 ▸ h)
  have hk3 : Hid (∀ W : World, Since W0 W → W.cell? ⟨w.heap.size + 1, 0, none⟩ = some (.bool false) ∧ W.cell? ⟨w.heap.size + 1, 1, none⟩ = some (.slice none 0 0) ∧ W.frozen? ⟨w.heap.size + 1, 0, none⟩ = false ∧ W.frozen? ⟨w.heap.size + 1, 1, none⟩ = false) := fun W h => keep2of (hW0 ▸ h)
  have hb3 : Hid (∀ W : World, Since W0 W → Since ((w.alloc (.cells #[.bool na, .slice A0 xs.length c0] 65)).alloc (.cells #[.bool false, .slice none 0 0] 65)) W) := fun W h => hW0 ▸ h
  have hS0 : Since w W0 := by rw [hW0]; exact ((Since.refl w).alloc _).alloc _
  have hK := Since.refl W0
  clear hW0 hx lx dx
  by_cases r1 : srightB na xs = true
  · have R1 := Lib.hid r1
    have em : mag (-(sval na xs)) = xs := by
      unfold mag; rw [Int.natAbs_neg, sval_abs]; exact digs_num HD.out (right_norm (sright_right r1)).2
    have es : signB (!na) xs = ngB (-(sval na xs)) := by
      have h := sign_mag (-(sval na xs)) (!na) (fun hz => by
        unfold ngB sval at *
        cases na <;> simp at hz ⊢ <;> omega)
      rw [em] at h; exact h
    have EV := Lib.hid (show negZ na xs = ((signB (!na) xs, xs), 0) by rw [negZ, if_pos r1, em, es])
    clear r1 em es
    obtain ⟨sg, hsg⟩ : ∃ sg, sg = signB (!na) xs := ⟨_, rfl⟩
    have HSG := Lib.hid hsg
    clear hsg
    go_enter Tryd.func39, Tryd.ntmps39
    go_wp2_with fail
    rw [← HW.out]
    go_wp2_with (first
      | (go_at_call 56; (with_reducible refine (right_any (.slice A0 xs.length c0) na xs _ (H.out.since (hS0.trans hK)) (by have := LL.out; omega)).mono ?_); rw [R1.out]; rintro e w1 ⟨rfl, h1⟩; have hK := hK.trans h1; obtain ⟨k0, k1⟩ := hold.out _ hK; obtain ⟨q0, q1, q2, q3⟩ := hk3.out _ hK)
      | (go_at_call 50; (with_reducible refine (made_any (.slice A0 xs.length c0) (!na) xs _ (H.out.since (hS0.trans hK)) (by have := LL.out; omega)).mono ?_); rw [← HSG.out]; rintro e w2 ⟨rfl, h2⟩; have hK := hK.trans h2; obtain ⟨k0, k1⟩ := hold.out _ hK; obtain ⟨q0, q1, q2, q3⟩ := hk3.out _ hK))
    refine bodyPost_ret (v := .tuple #[sv sg (.slice A0 xs.length c0), .int .i64 0]) ?_ rfl ?_
    · simp [results, Tryd.results39, go_sem, q0, q1]
    · rw [EV.out, HSG.out]
      exact ⟨_, _, rfl, row_set2of (H.out.since (hS0.trans hK)) (hb3.out _ hK) _ _, since_set2of (hb3.out _ hK) _ _⟩
  · have R1 := Lib.hid (show srightB na xs = false by simpa using r1)
    have EV := Lib.hid (show negZ na xs = ((false, []), 2) by rw [negZ, if_neg r1])
    clear r1
    go_enter Tryd.func39, Tryd.ntmps39
    go_wp2_with fail
    rw [← HW.out]
    go_wp2_with (first
      | (go_at_call 56; (with_reducible refine (right_any (.slice A0 xs.length c0) na xs _ (H.out.since (hS0.trans hK)) (by have := LL.out; omega)).mono ?_); rw [R1.out]; rintro e w1 ⟨rfl, h1⟩; have hK := hK.trans h1; obtain ⟨k0, k1⟩ := hold.out _ hK; obtain ⟨q0, q1, q2, q3⟩ := hk3.out _ hK))
    refine bodyPost_ret (v := .tuple #[sv false (.slice none 0 0), .int .i64 2]) ?_ rfl ?_
    · simp [results, Tryd.results39, go_sem, q0, q1]
    · rw [EV.out]
      exact ⟨_, _, rfl, Row.nil _, since_set2of (hb3.out _ hK) _ _⟩
end Go.Proofs.YtbkkalmdjcpgoaaDoor.Ref03
