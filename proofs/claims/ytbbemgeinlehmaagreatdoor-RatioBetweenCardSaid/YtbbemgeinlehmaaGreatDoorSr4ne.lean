/- What the opposite of a fraction in package ratio is. -/
import Derived.Test.YtbbemgeinlehmaaGreatDoorSr4op
import Derived.Test.YtbbemgeinlehmaaGreatDoorTa
import Derived.Test.YtbbemgeinlehmaaGreatDoorSb
import Derived.Test.YtbbemgeinlehmaaGreatDoorRg
import Derived.Deep.DeepCutAuto
namespace Go.Proofs.YtbbemgeinlehmaaGreatDoor.Sr04
open Go.RowKit
set_option linter.unusedVariables false
open Go.Proofs.YtbbemgeinlehmaaGreatDoor.Dig Go.Proofs.YtbbemgeinlehmaaGreatDoor.R4 Go.Proofs.YtbbemgeinlehmaaGreatDoor.Fr
open Go.Proofs.YtbbemgeinlehmaaGreatDoor.Ref03 (sv srightB gcdZ divZ negZ mulZ addZ cmpZ textZ sval ngB mag RetZ RetQR RetS)
set_option linter.unusedSimpArgs false
open Go.Proofs.YtbbemgeinlehmaaGreatDoor.Ref04

set_option maxRecDepth 100000 in
set_option maxHeartbeats 4000000 in
theorem neg_any (A0 A1 : Option Addr) (c0 c1 : Nat) (na nb : Bool) (xs ys : List Nat) (w : World) (hx : Row w (.slice A0 xs.length c0) xs) (hy : Row w (.slice A1 ys.length c1) ys) (lx : xs.length ≤ 1000) (ly : ys.length ≤ 1000) :
    Calls Tryz.prog 14 #[.agg #[.bool na, .slice A0 xs.length c0, .bool nb, .slice A1 ys.length c1]] w (RetF (negR ((na, xs), (nb, ys))) w) := by
  have H := Lib.hid (And.intro hx hy)
  have LL := Lib.hid (And.intro lx ly)
  obtain ⟨W0, hW0⟩ : ∃ W0, W0 = (w.alloc (.cells #[.bool na, .slice A0 xs.length c0, .bool nb, .slice A1 ys.length c1] 31)).alloc (.cells #[.bool false, .slice none 0 0, .bool false, .slice none 0 0] 31) := ⟨_, rfl⟩
  have HW := Lib.hid hW0
  have hS0 : Since w W0 := by rw [hW0]; exact ((Since.refl w).alloc _).alloc _
  have hbx : Hid (∀ W : World, Since W0 W → Bx W (w.heap.size) #[.bool na, .slice A0 xs.length c0, .bool nb, .slice A1 ys.length c1] 31 ∧ Bx W (w.heap.size + 1) #[.bool false, .slice none 0 0, .bool false, .slice none 0 0] 31) := fun W h => ⟨Bx.new ((since_alloc _ _).trans (hW0 ▸ h)) (by simp), Bx.new (hW0 ▸ h) (by simp)⟩
  clear hW0
  have hK := Since.refl W0
  clear hx hy lx ly
  by_cases rr : rrB ((na, xs), (nb, ys)) = true
  rotate_left
  · have FN := Lib.hid (show negR ((na, xs), (nb, ys)) = (nilF, 2) from if_neg rr)
    have RR := Lib.hid (show rrB ((na, xs), (nb, ys)) = false by simpa using rr)
    clear rr
    go_enter Tryz.func14, Tryz.ntmps14
    go_wp2_with fail
    rw [← HW.out]
    obtain ⟨B0, B1⟩ := hbx.out _ hK; obtain ⟨k0a, k0b, k0c, k0d⟩ := B0.four; obtain ⟨r0a, r0b, r0c, r0d⟩ := B1.four; obtain ⟨f0a, f0b, f0c, f0d⟩ := B1.four'
    go_wp2_with (first
      | (go_at_call 35; (with_reducible refine (right_any A0 A1 c0 c1 na nb xs ys _ (H.out.1.since (hS0.trans hK)) (H.out.2.since (hS0.trans hK)) (by have := LL.out; omega) (by have := LL.out; omega)).mono ?_); rw [RR.out]; rintro e w1 ⟨rfl, h⟩; have hK := hK.trans h; obtain ⟨B0, B1⟩ := hbx.out _ hK; obtain ⟨k0a, k0b, k0c, k0d⟩ := B0.four; obtain ⟨r0a, r0b, r0c, r0d⟩ := B1.four; obtain ⟨f0a, f0b, f0c, f0d⟩ := B1.four'))
    have gr := (hbx.out _ hK).2
    obtain ⟨r0a, r0b, r0c, r0d⟩ := gr.four
    obtain ⟨f0a, f0b, f0c, f0d⟩ := gr.four'
    refine bodyPost_ret (v := (.tuple #[.agg #[.bool false, .slice none 0 0, .bool false, .slice none 0 0], .int .i64 2])) ?_ rfl ?_
    · simp [results, Tryz.results14, go_sem, r0a, r0b, r0c, r0d]
    · rw [FN.out]; exact ⟨_, _, _, _, rfl, gr.rowsR (Row.nil _) (put4_far _ _ _ _ _ _), gr.rowsR (Row.nil _) (put4_far _ _ _ _ _ _), since_put4 (hS0.trans hK) (by omega) _ _ _ _⟩
  obtain rfl : nb = false := (well_parts (rr_parts rr).1).2.2.2.2.1
  have RR := Lib.hid rr
  have FN := Lib.hid (show negR ((na, xs), (false, ys)) = ((pz (-(sval na xs)), (false, ys)), 0) from if_pos rr)
  have NN := Lib.hid (show negZ na xs = (pz (-(sval na xs)), 0) from if_pos (well_parts (rr_parts rr).1).1)
  clear rr
  go_enter Tryz.func14, Tryz.ntmps14
  go_wp2_with fail
  rw [← HW.out]
  obtain ⟨B0, B1⟩ := hbx.out _ hK; obtain ⟨k0a, k0b, k0c, k0d⟩ := B0.four; obtain ⟨r0a, r0b, r0c, r0d⟩ := B1.four; obtain ⟨f0a, f0b, f0c, f0d⟩ := B1.four'
  go_wp2_with (first
    | (go_at_call 35; (with_reducible refine (right_any A0 A1 c0 c1 na false xs ys _ (H.out.1.since (hS0.trans hK)) (H.out.2.since (hS0.trans hK)) (by have := LL.out; omega) (by have := LL.out; omega)).mono ?_); rw [RR.out]; rintro e w1 ⟨rfl, h⟩; have hK := hK.trans h; obtain ⟨B0, B1⟩ := hbx.out _ hK; obtain ⟨k0a, k0b, k0c, k0d⟩ := B0.four; obtain ⟨r0a, r0b, r0c, r0d⟩ := B1.four; obtain ⟨f0a, f0b, f0c, f0d⟩ := B1.four')
    | (go_at_call 48; (with_reducible refine (opp_any A0 A1 c0 c1 na false xs ys _ (H.out.1.since (hS0.trans hK)) (H.out.2.since (hS0.trans hK)) (by have := LL.out; omega) (by have := LL.out; omega) NN.out).mono ?_); rintro e w2 ⟨X, x, Y, y, rfl, rx, ry, h⟩; have hK := hK.trans h; obtain ⟨B0, B1⟩ := hbx.out _ hK; obtain ⟨k0a, k0b, k0c, k0d⟩ := B0.four; obtain ⟨r0a, r0b, r0c, r0d⟩ := B1.four; obtain ⟨f0a, f0b, f0c, f0d⟩ := B1.four'))
  have gr := (hbx.out _ hK).2
  obtain ⟨r0a, r0b, r0c, r0d⟩ := gr.four
  obtain ⟨f0a, f0b, f0c, f0d⟩ := gr.four'
  refine bodyPost_ret (v := (.tuple #[.agg #[.bool (ngB (-(sval na xs))), .slice X (mag (-(sval na xs))).length x, .bool false, .slice Y ys.length y], .int .i64 0])) ?_ rfl ?_
  · simp [results, Tryz.results14, go_sem, r0a, r0b, r0c, r0d]
  · rw [FN.out]; exact ⟨_, _, _, _, rfl, gr.rowsR rx (put4_far _ _ _ _ _ _), gr.rowsR ry (put4_far _ _ _ _ _ _), since_put4 (hS0.trans hK) (by omega) _ _ _ _⟩
end Go.Proofs.YtbbemgeinlehmaaGreatDoor.Sr04
