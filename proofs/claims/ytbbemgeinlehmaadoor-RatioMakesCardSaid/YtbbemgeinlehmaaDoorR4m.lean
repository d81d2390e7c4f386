/- What the document's own Make of layer 4 gives back. -/
import Derived.Test.YtbbemgeinlehmaaDoorQa
import Derived.Deep.DeepCutAuto
namespace Go.Proofs.YtbbemgeinlehmaaDoor.Ref04
open Go.RowKit
set_option linter.unusedVariables false
open Go.Proofs.YtbbemgeinlehmaaDoor.Dig Go.Proofs.YtbbemgeinlehmaaDoor.R4 Go.Proofs.YtbbemgeinlehmaaDoor.Fr
open Go.Proofs.YtbbemgeinlehmaaDoor.Ref03 (sv srightB gcdZ divZ negZ mulZ addZ cmpZ textZ sval ngB mag RetZ RetQR RetS)

set_option maxRecDepth 100000 in
set_option maxHeartbeats 4000000 in
theorem make_any (A0 A1 : Option Addr) (c0 c1 : Nat) (na nb : Bool) (xs ys : List Nat) (w : World) (hx : Row w (.slice A0 xs.length c0) xs) (hy : Row w (.slice A1 ys.length c1) ys) (lx : xs.length ≤ 1000) (ly : ys.length ≤ 1000) :
    Calls Tryd.prog 9 #[sv na (.slice A0 xs.length c0), sv nb (.slice A1 ys.length c1)] w (RetF (makeR (na, xs) (nb, ys)) w) := by
  have H := Lib.hid (And.intro hx hy)
  have LL := Lib.hid (And.intro lx ly)
  clear hx hy lx ly
  obtain ⟨W0, hW0⟩ : ∃ W0, W0 = ((w.alloc (.cells #[.bool na, .slice A0 xs.length c0] 24)).alloc (.cells #[.bool nb, .slice A1 ys.length c1] 24)).alloc (.cells #[.bool false, .slice none 0 0, .bool false, .slice none 0 0] 26) := ⟨_, rfl⟩
  have HW := Lib.hid hW0
  have hS0 : Since w W0 := by rw [hW0]; exact (((Since.refl w).alloc _).alloc _).alloc _
  have hbx : Hid (∀ W : World, Since W0 W → Bx W (w.heap.size) #[.bool na, .slice A0 xs.length c0] 24 ∧ Bx W (w.heap.size + 1) #[.bool nb, .slice A1 ys.length c1] 24 ∧ Bx W (w.heap.size + 1 + 1) #[.bool false, .slice none 0 0, .bool false, .slice none 0 0] 26) := fun W h => ⟨Bx.new ((since_alloc _ _).trans ((since_alloc _ _).trans (hW0 ▸ h))) (by simp), Bx.new ((since_alloc _ _).trans (hW0 ▸ h)) (by simp), Bx.new (hW0 ▸ h) (by simp)⟩
  clear hW0
  have hK := Since.refl W0
  by_cases r1 : srightB na xs = true
  rotate_left
  · have FN := Lib.hid (show makeR (na, xs) (nb, ys) = (nilF, 2) from if_neg (fun h => r1 h.1.1))
    have R1 := Lib.hid (show srightB na xs = false by simpa using r1)
    clear r1
    go_enter Tryd.func9, Tryd.ntmps9
    go_wp2_with fail
    rw [← HW.out]
    obtain ⟨B0, B1, B2⟩ := hbx.out _ hK; obtain ⟨k0a, k0b⟩ := B0.two; obtain ⟨k1a, k1b⟩ := B1.two; obtain ⟨r0a, r0b, r0c, r0d⟩ := B2.four; obtain ⟨f0a, f0b, f0c, f0d⟩ := B2.four'
    go_wp2_with (first
      | (go_at_call 28; (with_reducible refine (Ref03.right_any (.slice A0 xs.length c0) na xs _ (H.out.1.since (hS0.trans hK)) (by have := LL.out; omega)).mono ?_); rw [R1.out]; rintro e w1 ⟨rfl, h⟩; have hK := hK.trans h; obtain ⟨B0, B1, B2⟩ := hbx.out _ hK; obtain ⟨k0a, k0b⟩ := B0.two; obtain ⟨k1a, k1b⟩ := B1.two; obtain ⟨r0a, r0b, r0c, r0d⟩ := B2.four; obtain ⟨f0a, f0b, f0c, f0d⟩ := B2.four')
      | (go_at_call 28; (with_reducible refine (Ref03.right_any (.slice A1 ys.length c1) nb ys _ (H.out.2.since (hS0.trans hK)) (by have := LL.out; omega)).mono ?_); rw [R2.out]; rintro e w2 ⟨rfl, h⟩; have hK := hK.trans h; obtain ⟨B0, B1, B2⟩ := hbx.out _ hK; obtain ⟨k0a, k0b⟩ := B0.two; obtain ⟨k1a, k1b⟩ := B1.two; obtain ⟨r0a, r0b, r0c, r0d⟩ := B2.four; obtain ⟨f0a, f0b, f0c, f0d⟩ := B2.four'))
    have gr := (hbx.out _ hK).2.2
    obtain ⟨r0a, r0b, r0c, r0d⟩ := gr.four
    obtain ⟨f0a, f0b, f0c, f0d⟩ := gr.four'
    refine bodyPost_ret (v := (.tuple #[.agg #[.bool false, .slice none 0 0, .bool false, .slice none 0 0], .int .i64 2])) ?_ rfl ?_
    · simp [results, Tryd.results9, go_sem, r0a, r0b, r0c, r0d]
    · rw [FN.out]; exact ⟨_, _, _, _, rfl, gr.rowsR (Row.nil _) (put4_far _ _ _ _ _ _), gr.rowsR (Row.nil _) (put4_far _ _ _ _ _ _), since_put4 (hS0.trans hK) (by omega) _ _ _ _⟩
  have R1 := Lib.hid r1
  by_cases r2 : srightB nb ys = true
  rotate_left
  · have FN := Lib.hid (show makeR (na, xs) (nb, ys) = (nilF, 2) from if_neg (fun h => r2 h.1.2))
    have R2 := Lib.hid (show srightB nb ys = false by simpa using r2)
    clear r1 r2
    go_enter Tryd.func9, Tryd.ntmps9
    go_wp2_with fail
    rw [← HW.out]
    obtain ⟨B0, B1, B2⟩ := hbx.out _ hK; obtain ⟨k0a, k0b⟩ := B0.two; obtain ⟨k1a, k1b⟩ := B1.two; obtain ⟨r0a, r0b, r0c, r0d⟩ := B2.four; obtain ⟨f0a, f0b, f0c, f0d⟩ := B2.four'
    go_wp2_with (first
      | (go_at_call 28; (with_reducible refine (Ref03.right_any (.slice A0 xs.length c0) na xs _ (H.out.1.since (hS0.trans hK)) (by have := LL.out; omega)).mono ?_); rw [R1.out]; rintro e w1 ⟨rfl, h⟩; have hK := hK.trans h; obtain ⟨B0, B1, B2⟩ := hbx.out _ hK; obtain ⟨k0a, k0b⟩ := B0.two; obtain ⟨k1a, k1b⟩ := B1.two; obtain ⟨r0a, r0b, r0c, r0d⟩ := B2.four; obtain ⟨f0a, f0b, f0c, f0d⟩ := B2.four')
      | (go_at_call 28; (with_reducible refine (Ref03.right_any (.slice A1 ys.length c1) nb ys _ (H.out.2.since (hS0.trans hK)) (by have := LL.out; omega)).mono ?_); rw [R2.out]; rintro e w2 ⟨rfl, h⟩; have hK := hK.trans h; obtain ⟨B0, B1, B2⟩ := hbx.out _ hK; obtain ⟨k0a, k0b⟩ := B0.two; obtain ⟨k1a, k1b⟩ := B1.two; obtain ⟨r0a, r0b, r0c, r0d⟩ := B2.four; obtain ⟨f0a, f0b, f0c, f0d⟩ := B2.four'))
    have gr := (hbx.out _ hK).2.2
    obtain ⟨r0a, r0b, r0c, r0d⟩ := gr.four
    obtain ⟨f0a, f0b, f0c, f0d⟩ := gr.four'
    refine bodyPost_ret (v := (.tuple #[.agg #[.bool false, .slice none 0 0, .bool false, .slice none 0 0], .int .i64 2])) ?_ rfl ?_
    · simp [results, Tryd.results9, go_sem, r0a, r0b, r0c, r0d]
    · rw [FN.out]; exact ⟨_, _, _, _, rfl, gr.rowsR (Row.nil _) (put4_far _ _ _ _ _ _), gr.rowsR (Row.nil _) (put4_far _ _ _ _ _ _), since_put4 (hS0.trans hK) (by omega) _ _ _ _⟩
  have R2 := Lib.hid r2
  by_cases h0 : ys.length = 0
  · have FN := Lib.hid (show makeR (na, xs) (nb, ys) = (nilF, 2) from if_neg (fun h => h.2 h0))
    have hz : ((ys.length : Int) == 0) = true := by rw [beq_iff_eq]; omega
    clear r1 r2 h0
    go_enter Tryd.func9, Tryd.ntmps9
    go_wp2_with fail
    rw [← HW.out]
    obtain ⟨B0, B1, B2⟩ := hbx.out _ hK; obtain ⟨k0a, k0b⟩ := B0.two; obtain ⟨k1a, k1b⟩ := B1.two; obtain ⟨r0a, r0b, r0c, r0d⟩ := B2.four; obtain ⟨f0a, f0b, f0c, f0d⟩ := B2.four'
    go_wp2_with (first
      | (go_at_call 28; (with_reducible refine (Ref03.right_any (.slice A0 xs.length c0) na xs _ (H.out.1.since (hS0.trans hK)) (by have := LL.out; omega)).mono ?_); rw [R1.out]; rintro e w1 ⟨rfl, h⟩; have hK := hK.trans h; obtain ⟨B0, B1, B2⟩ := hbx.out _ hK; obtain ⟨k0a, k0b⟩ := B0.two; obtain ⟨k1a, k1b⟩ := B1.two; obtain ⟨r0a, r0b, r0c, r0d⟩ := B2.four; obtain ⟨f0a, f0b, f0c, f0d⟩ := B2.four')
      | (go_at_call 28; (with_reducible refine (Ref03.right_any (.slice A1 ys.length c1) nb ys _ (H.out.2.since (hS0.trans hK)) (by have := LL.out; omega)).mono ?_); rw [R2.out]; rintro e w2 ⟨rfl, h⟩; have hK := hK.trans h; obtain ⟨B0, B1, B2⟩ := hbx.out _ hK; obtain ⟨k0a, k0b⟩ := B0.two; obtain ⟨k1a, k1b⟩ := B1.two; obtain ⟨r0a, r0b, r0c, r0d⟩ := B2.four; obtain ⟨f0a, f0b, f0c, f0d⟩ := B2.four'))
    have gr := (hbx.out _ hK).2.2
    obtain ⟨r0a, r0b, r0c, r0d⟩ := gr.four
    obtain ⟨f0a, f0b, f0c, f0d⟩ := gr.four'
    refine bodyPost_ret (v := (.tuple #[.agg #[.bool false, .slice none 0 0, .bool false, .slice none 0 0], .int .i64 2])) ?_ rfl ?_
    · simp [results, Tryd.results9, go_sem, r0a, r0b, r0c, r0d]
    · rw [FN.out]; exact ⟨_, _, _, _, rfl, gr.rowsR (Row.nil _) (put4_far _ _ _ _ _ _), gr.rowsR (Row.nil _) (put4_far _ _ _ _ _ _), since_put4 (hS0.trans hK) (by omega) _ _ _ _⟩
  have hz : ((ys.length : Int) == 0) = false := by rw [beq_eq_false_iff_ne]; omega
  obtain ⟨gs, n, d, M⟩ := made_nums H.out.1.dig H.out.2.dig r1 r2 h0
  have M := Lib.hid M
  obtain ⟨n1, s1, n2, s2, er, hr⟩ := parts5 (fitF (Fr.red (sval na xs) (sval nb ys)))
  have FN := Lib.hid (show makeR (na, xs) (nb, ys) = (((n1, s1), (n2, s2)), er) from (if_pos ⟨⟨r1, r2⟩, h0⟩).trans hr)
  have hr := Lib.hid hr
  have L1 := Lib.hid (right_norm (Ref03.sright_right r1)).1
  have L2 := Lib.hid (right_norm (Ref03.sright_right r2)).1
  clear r1 r2 h0
  go_enter Tryd.func9, Tryd.ntmps9
  go_wp2_with fail
  rw [← HW.out]
  obtain ⟨B0, B1, B2⟩ := hbx.out _ hK; obtain ⟨k0a, k0b⟩ := B0.two; obtain ⟨k1a, k1b⟩ := B1.two; obtain ⟨r0a, r0b, r0c, r0d⟩ := B2.four; obtain ⟨f0a, f0b, f0c, f0d⟩ := B2.four'
  go_wp2_with (first
    | (go_at_call 28; (with_reducible refine (Ref03.right_any (.slice A0 xs.length c0) na xs _ (H.out.1.since (hS0.trans hK)) (by have := LL.out; omega)).mono ?_); rw [R1.out]; rintro e w1 ⟨rfl, h⟩; have hK := hK.trans h; obtain ⟨B0, B1, B2⟩ := hbx.out _ hK; obtain ⟨k0a, k0b⟩ := B0.two; obtain ⟨k1a, k1b⟩ := B1.two; obtain ⟨r0a, r0b, r0c, r0d⟩ := B2.four; obtain ⟨f0a, f0b, f0c, f0d⟩ := B2.four')
    | (go_at_call 28; (with_reducible refine (Ref03.right_any (.slice A1 ys.length c1) nb ys _ (H.out.2.since (hS0.trans hK)) (by have := LL.out; omega)).mono ?_); rw [R2.out]; rintro e w2 ⟨rfl, h⟩; have hK := hK.trans h; obtain ⟨B0, B1, B2⟩ := hbx.out _ hK; obtain ⟨k0a, k0b⟩ := B0.two; obtain ⟨k1a, k1b⟩ := B1.two; obtain ⟨r0a, r0b, r0c, r0d⟩ := B2.four; obtain ⟨f0a, f0b, f0c, f0d⟩ := B2.four')
    | (go_at_call 29; (with_reducible refine ((made_nums_any A0 A1 c0 c1 na nb xs ys _ (H.out.1.since (hS0.trans hK)) (H.out.2.since (hS0.trans hK)) L1.out L2.out M.out).mono fun _ _ h => RetF.at hr.out h).mono ?_); rintro e w3 ⟨X, x, Y, y, rfl, rx, ry, h⟩; have hK := hK.trans h; obtain ⟨B0, B1, B2⟩ := hbx.out _ hK; obtain ⟨k0a, k0b⟩ := B0.two; obtain ⟨k1a, k1b⟩ := B1.two; obtain ⟨r0a, r0b, r0c, r0d⟩ := B2.four; obtain ⟨f0a, f0b, f0c, f0d⟩ := B2.four'))
  have gr := (hbx.out _ hK).2.2
  obtain ⟨r0a, r0b, r0c, r0d⟩ := gr.four
  obtain ⟨f0a, f0b, f0c, f0d⟩ := gr.four'
  refine bodyPost_ret (v := (.tuple #[.agg #[.bool n1, .slice X s1.length x, .bool n2, .slice Y s2.length y], .int .i64 er])) ?_ rfl ?_
  · simp [results, Tryd.results9, go_sem, r0a, r0b, r0c, r0d]
  · rw [FN.out]; exact RetF.of rfl ⟨_, _, _, _, rfl, gr.rowsR rx (put4_far _ _ _ _ _ _), gr.rowsR ry (put4_far _ _ _ _ _ _), since_put4 (hS0.trans hK) (by omega) _ _ _ _⟩
end Go.Proofs.YtbbemgeinlehmaaDoor.Ref04
