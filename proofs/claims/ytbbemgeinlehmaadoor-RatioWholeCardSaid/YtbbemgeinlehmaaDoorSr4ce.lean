/- What Ceil of package ratio gives back. -/
import Derived.Test.YtbbemgeinlehmaaDoorSr4op
import Derived.Test.YtbbemgeinlehmaaDoorTa
import Derived.Deep.DeepCutAuto
namespace Go.Proofs.YtbbemgeinlehmaaDoor.Sr04
open Go.RowKit
set_option linter.unusedVariables false
open Go.Proofs.YtbbemgeinlehmaaDoor.Dig Go.Proofs.YtbbemgeinlehmaaDoor.R4 Go.Proofs.YtbbemgeinlehmaaDoor.Fr
open Go.Proofs.YtbbemgeinlehmaaDoor.Ref03 (sv srightB gcdZ divZ negZ mulZ addZ cmpZ textZ sval ngB mag RetZ RetQR RetS)
set_option linter.unusedSimpArgs false
open Go.Proofs.YtbbemgeinlehmaaDoor.Ref04

theorem div_opp {na : Bool} {xs ys : List Nat} (dx : IsDig xs) (dy : IsDig ys) (h : rrB ((na, xs), (false, ys)) = true) : divZ (ngB (-(sval na xs))) (mag (-(sval na xs))) false ys = ((pz ((-(sval na xs)).fdiv (sval false ys)), pz ((-(sval na xs)).fmod (sval false ys))), 0) := by
  obtain ⟨h1, h2, h3, _, _, h6⟩ := well_parts (rr_parts h).1
  have l : (mag (-(sval na xs))).length ≤ 256 := by rw [mag_neg, (Bk.of_right dx h1).2]; have : xs.length ≤ 64 := h3; omega
  unfold divZ
  rw [if_pos ⟨⟨Bk.right_mag l, h2⟩, h6⟩, Bk.sval_mag]
theorem ceil_len {na : Bool} {xs ys : List Nat} (dx : IsDig xs) (dy : IsDig ys) (h : rrB ((na, xs), (false, ys)) = true) : (mag (-(sval na xs))).length ≤ 256 ∧ (mag ((-(sval na xs)).fdiv (sval false ys))).length ≤ 256 := by
  obtain ⟨h1, h2, h3, _, _, h6⟩ := well_parts (rr_parts h).1
  have l : (mag (-(sval na xs))).length ≤ 64 := by rw [mag_neg, (Bk.of_right dx h1).2]; exact h3
  have hp := (rr_low dx dy h).1.1
  exact ⟨by omega, und_len ((und_fdiv (d := sval false ys) hp (und_of l)).up (by omega))⟩
set_option maxRecDepth 100000 in
set_option maxHeartbeats 4000000 in
theorem ceil_any (A0 A1 : Option Addr) (c0 c1 : Nat) (na nb : Bool) (xs ys : List Nat) (w : World) (hx : Row w (.slice A0 xs.length c0) xs) (hy : Row w (.slice A1 ys.length c1) ys) (lx : xs.length ≤ 1000) (ly : ys.length ≤ 1000) :
    Calls Tryd.prog 21 #[.agg #[.bool na, .slice A0 xs.length c0, .bool nb, .slice A1 ys.length c1]] w (RetN (ceilR ((na, xs), (nb, ys))) w) := by
  have H := Lib.hid (And.intro hx hy)
  have LL := Lib.hid (And.intro lx ly)
  obtain ⟨W0, hW0⟩ : ∃ W0, W0 = (w.alloc (.cells #[.bool na, .slice A0 xs.length c0, .bool nb, .slice A1 ys.length c1] 31)).alloc (.cells #[.bool false, .slice none 0 0] 29) := ⟨_, rfl⟩
  have HW := Lib.hid hW0
  have hS0 : Since w W0 := by rw [hW0]; exact ((Since.refl w).alloc _).alloc _
  have hbx : Hid (∀ W : World, Since W0 W → Bx W (w.heap.size) #[.bool na, .slice A0 xs.length c0, .bool nb, .slice A1 ys.length c1] 31 ∧ Bx W (w.heap.size + 1) #[.bool false, .slice none 0 0] 29) := fun W h => ⟨Bx.new ((since_alloc _ _).trans (hW0 ▸ h)) (by simp), Bx.new (hW0 ▸ h) (by simp)⟩
  clear hW0
  have hK := Since.refl W0
  clear hx hy lx ly
  by_cases rr : rrB ((na, xs), (nb, ys)) = true
  rotate_left
  · have FN := Lib.hid (show ceilR ((na, xs), (nb, ys)) = ((false, []), 2) from if_neg rr)
    have RR := Lib.hid (show rrB ((na, xs), (nb, ys)) = false by simpa using rr)
    clear rr
    go_enter Tryd.func21, Tryd.ntmps21
    go_wp2_with fail
    rw [← HW.out]
    obtain ⟨B0, B1⟩ := hbx.out _ hK; obtain ⟨k0a, k0b, k0c, k0d⟩ := B0.four; obtain ⟨r0a, r0b⟩ := B1.two; obtain ⟨f0a, f0b⟩ := B1.two'
    go_wp2_with (first
      | (go_at_call 10; (with_reducible refine (right_any A0 A1 c0 c1 na nb xs ys _ (H.out.1.since (hS0.trans hK)) (H.out.2.since (hS0.trans hK)) (by have := LL.out; omega) (by have := LL.out; omega)).mono ?_); rw [RR.out]; rintro e w1 ⟨rfl, h⟩; have hK := hK.trans h; obtain ⟨B0, B1⟩ := hbx.out _ hK; obtain ⟨k0a, k0b, k0c, k0d⟩ := B0.four; obtain ⟨r0a, r0b⟩ := B1.two; obtain ⟨f0a, f0b⟩ := B1.two'))
    have gr := (hbx.out _ hK).2
    obtain ⟨r0a, r0b⟩ := gr.two
    obtain ⟨f0a, f0b⟩ := gr.two'
    refine bodyPost_ret (v := .tuple #[.agg #[.bool false, .slice none 0 0], .int .i64 2]) ?_ rfl ?_
    · simp [results, Tryd.results21, go_sem, r0a, r0b]
    · rw [FN.out]; exact ⟨_, _, rfl, gr.rowsI (Row.nil _) (put2_far _ _ _ _), since_put2 (hS0.trans hK) (by omega) _ _⟩
  obtain rfl : nb = false := (well_parts (rr_parts rr).1).2.2.2.2.1
  have RR := Lib.hid rr
  have NN := Lib.hid (show negZ na xs = (pz (-(sval na xs)), 0) from if_pos (well_parts (rr_parts rr).1).1)
  have DD := Lib.hid (div_opp H.out.1.dig H.out.2.dig rr)
  have FL := Lib.hid (ceil_len H.out.1.dig H.out.2.dig rr)
  obtain ⟨u, hu⟩ : ∃ u, u = -(sval na xs) := ⟨_, rfl⟩
  have FN := Lib.hid (show ceilR ((na, xs), (false, ys)) = (pz (-((-(sval na xs)).fdiv (sval false ys))), 0) from if_pos rr)
  rw [← hu] at NN DD FL FN
  clear rr hu
  obtain ⟨q, hq⟩ : ∃ q, q = u.fdiv (sval false ys) := ⟨_, rfl⟩
  obtain ⟨m, hm⟩ : ∃ m, m = u.fmod (sval false ys) := ⟨_, rfl⟩
  rw [← hq, ← hm] at DD
  rw [← hq] at FL FN
  clear hq hm
  have GG := Lib.hid (negZ_pz FL.out.2)
  go_enter Tryd.func21, Tryd.ntmps21
  go_wp2_with fail
  rw [← HW.out]
  obtain ⟨B0, B1⟩ := hbx.out _ hK; obtain ⟨k0a, k0b, k0c, k0d⟩ := B0.four; obtain ⟨r0a, r0b⟩ := B1.two; obtain ⟨f0a, f0b⟩ := B1.two'
  go_wp2_with (first
    | (go_at_call 10; (with_reducible refine (right_any A0 A1 c0 c1 na false xs ys _ (H.out.1.since (hS0.trans hK)) (H.out.2.since (hS0.trans hK)) (by have := LL.out; omega) (by have := LL.out; omega)).mono ?_); rw [RR.out]; rintro e w1 ⟨rfl, h⟩; have hK := hK.trans h; obtain ⟨B0, B1⟩ := hbx.out _ hK; obtain ⟨k0a, k0b, k0c, k0d⟩ := B0.four; obtain ⟨r0a, r0b⟩ := B1.two; obtain ⟨f0a, f0b⟩ := B1.two')
    | (go_at_call 42; (with_reducible refine (opp_any A0 A1 c0 c1 na false xs ys _ (H.out.1.since (hS0.trans hK)) (H.out.2.since (hS0.trans hK)) (by have := LL.out; omega) (by have := LL.out; omega) NN.out).mono ?_); rintro e w2 ⟨X, x, Y, y, rfl, rx, ry, h⟩; have hK := hK.trans h; obtain ⟨B0, B1⟩ := hbx.out _ hK; obtain ⟨k0a, k0b, k0c, k0d⟩ := B0.four; obtain ⟨r0a, r0b⟩ := B1.two; obtain ⟨f0a, f0b⟩ := B1.two')
    | (go_at_call 40; (with_reducible refine (fl_any X Y x y (ngB u) false (mag u) ys _ (rx.since (Since.refl _)) (ry.since (Since.refl _)) (by have := FL.out; omega) (by have := LL.out; omega) DD.out).mono ?_); rintro e w3 ⟨Z, z, rfl, rz, h⟩; have hK := hK.trans h; obtain ⟨B0, B1⟩ := hbx.out _ hK; obtain ⟨k0a, k0b, k0c, k0d⟩ := B0.four; obtain ⟨r0a, r0b⟩ := B1.two; obtain ⟨f0a, f0b⟩ := B1.two')
    | (go_at_call 41; (with_reducible refine (neg_at Z z (ngB q) (mag q) _ (rz.since (Since.refl _)) (by have := FL.out; omega) GG.out).mono ?_); rintro e w4 ⟨V, v, rfl, rv, h⟩; have hK := hK.trans h; obtain ⟨B0, B1⟩ := hbx.out _ hK; obtain ⟨k0a, k0b, k0c, k0d⟩ := B0.four; obtain ⟨r0a, r0b⟩ := B1.two; obtain ⟨f0a, f0b⟩ := B1.two'))
  have gr := (hbx.out _ hK).2
  obtain ⟨r0a, r0b⟩ := gr.two
  obtain ⟨f0a, f0b⟩ := gr.two'
  refine bodyPost_ret (v := .tuple #[.agg #[.bool (ngB (-q)), .slice V (mag (-q)).length v], .int .i64 0]) ?_ rfl ?_
  · simp [results, Tryd.results21, go_sem, r0a, r0b]
  · rw [FN.out]; exact ⟨_, _, rfl, gr.rowsI rv (put2_far _ _ _ _), since_put2 (hS0.trans hK) (by omega) _ _⟩
end Go.Proofs.YtbbemgeinlehmaaDoor.Sr04
