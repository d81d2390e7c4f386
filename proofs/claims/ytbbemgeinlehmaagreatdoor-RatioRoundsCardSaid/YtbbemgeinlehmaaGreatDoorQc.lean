/- What the document's own Neg and Floor of layer 4 give back. What the document's own Cmp, Add, Mul and Div of layer 4 give back. -/
import Derived.Test.YtbbemgeinlehmaaGreatDoorQa
import Derived.Deep.DeepCutAuto
import Derived.Test.YtbbemgeinlehmaaGreatDoorRc
import Derived.Test.YtbbemgeinlehmaaGreatDoorRg
namespace Go.Proofs.YtbbemgeinlehmaaGreatDoor.Ref04
open Go.RowKit
set_option linter.unusedVariables false
open Go.Proofs.YtbbemgeinlehmaaGreatDoor.Dig Go.Proofs.YtbbemgeinlehmaaGreatDoor.R4 Go.Proofs.YtbbemgeinlehmaaGreatDoor.Fr
open Go.Proofs.YtbbemgeinlehmaaGreatDoor.Ref03 (sv srightB gcdZ divZ negZ mulZ addZ cmpZ textZ sval ngB mag RetZ RetQR RetS)

set_option maxRecDepth 100000 in
set_option maxHeartbeats 4000000 in
theorem neg_any (A0 A1 : Option Addr) (c0 c1 : Nat) (na nb : Bool) (xs ys : List Nat) (w : World) (hx : Row w (.slice A0 xs.length c0) xs) (hy : Row w (.slice A1 ys.length c1) ys) (lx : xs.length ≤ 1000) (ly : ys.length ≤ 1000) :
    Calls Tryz.prog 15 #[.agg #[.bool na, .slice A0 xs.length c0, .bool nb, .slice A1 ys.length c1]] w (RetF (negR ((na, xs), (nb, ys))) w) := by
  have H := Lib.hid (And.intro hx hy)
  have LL := Lib.hid (And.intro lx ly)
  obtain ⟨W0, hW0⟩ : ∃ W0, W0 = (w.alloc (.cells #[.bool na, .slice A0 xs.length c0, .bool nb, .slice A1 ys.length c1] 26)).alloc (.cells #[.bool false, .slice none 0 0, .bool false, .slice none 0 0] 26) := ⟨_, rfl⟩
  have HW := Lib.hid hW0
  have hS0 : Since w W0 := by rw [hW0]; exact ((Since.refl w).alloc _).alloc _
  have hbx : Hid (∀ W : World, Since W0 W → Bx W (w.heap.size) #[.bool na, .slice A0 xs.length c0, .bool nb, .slice A1 ys.length c1] 26 ∧ Bx W (w.heap.size + 1) #[.bool false, .slice none 0 0, .bool false, .slice none 0 0] 26) := fun W h => ⟨Bx.new ((since_alloc _ _).trans (hW0 ▸ h)) (by simp), Bx.new (hW0 ▸ h) (by simp)⟩
  clear hW0
  have hK := Since.refl W0
  clear hx hy lx ly
  by_cases rr : rrB ((na, xs), (nb, ys)) = true
  rotate_left
  · have FN := Lib.hid (show negR ((na, xs), (nb, ys)) = (nilF, 2) from if_neg rr)
    have RR := Lib.hid (show rrB ((na, xs), (nb, ys)) = false by simpa using rr)
    clear rr
    go_enter Tryz.func15, Tryz.ntmps15
    go_wp2_with fail
    rw [← HW.out]
    obtain ⟨B0, B1⟩ := hbx.out _ hK; obtain ⟨k0a, k0b, k0c, k0d⟩ := B0.four; obtain ⟨r0a, r0b, r0c, r0d⟩ := B1.four; obtain ⟨f0a, f0b, f0c, f0d⟩ := B1.four'
    go_wp2_with (first
      | (go_at_call 31; (with_reducible refine (right_any A0 A1 c0 c1 na nb xs ys _ (H.out.1.since (hS0.trans hK)) (H.out.2.since (hS0.trans hK)) (by have := LL.out; omega) (by have := LL.out; omega)).mono ?_); rw [RR.out]; rintro e w1 ⟨rfl, h⟩; have hK := hK.trans h; obtain ⟨B0, B1⟩ := hbx.out _ hK; obtain ⟨k0a, k0b, k0c, k0d⟩ := B0.four; obtain ⟨r0a, r0b, r0c, r0d⟩ := B1.four; obtain ⟨f0a, f0b, f0c, f0d⟩ := B1.four'))
    have gr := (hbx.out _ hK).2
    obtain ⟨r0a, r0b, r0c, r0d⟩ := gr.four
    obtain ⟨f0a, f0b, f0c, f0d⟩ := gr.four'
    refine bodyPost_ret (v := (.tuple #[.agg #[.bool false, .slice none 0 0, .bool false, .slice none 0 0], .int .i64 2])) ?_ rfl ?_
    · simp [results, Tryz.results15, go_sem, r0a, r0b, r0c, r0d]
    · rw [FN.out]; exact ⟨_, _, _, _, rfl, gr.rowsR (Row.nil _) (put4_far _ _ _ _ _ _), gr.rowsR (Row.nil _) (put4_far _ _ _ _ _ _), since_put4 (hS0.trans hK) (by omega) _ _ _ _⟩
  have RR := Lib.hid rr
  have FN := Lib.hid (show negR ((na, xs), (nb, ys)) = ((pz (-(sval na xs)), (nb, ys)), 0) from if_pos rr)
  have NN := Lib.hid (show negZ na xs = (pz (-(sval na xs)), 0) from if_pos (well_parts (rr_parts rr).1).1)
  clear rr
  go_enter Tryz.func15, Tryz.ntmps15
  go_wp2_with fail
  rw [← HW.out]
  obtain ⟨B0, B1⟩ := hbx.out _ hK; obtain ⟨k0a, k0b, k0c, k0d⟩ := B0.four; obtain ⟨r0a, r0b, r0c, r0d⟩ := B1.four; obtain ⟨f0a, f0b, f0c, f0d⟩ := B1.four'
  go_upto_region 4 with (first
    | (go_at_call 31; (with_reducible refine (right_any A0 A1 c0 c1 na nb xs ys _ (H.out.1.since (hS0.trans hK)) (H.out.2.since (hS0.trans hK)) (by have := LL.out; omega) (by have := LL.out; omega)).mono ?_); rw [RR.out]; rintro e w1 ⟨rfl, h⟩; have hK := hK.trans h; obtain ⟨B0, B1⟩ := hbx.out _ hK; obtain ⟨k0a, k0b, k0c, k0d⟩ := B0.four; obtain ⟨r0a, r0b, r0c, r0d⟩ := B1.four; obtain ⟨f0a, f0b, f0c, f0d⟩ := B1.four')
    | (go_at_call 49; (with_reducible refine (neg_at A0 c0 na xs _ (H.out.1.since (hS0.trans hK)) (by have := LL.out; omega) NN.out).mono ?_); rintro e w2 ⟨X, x, rfl, rx, h⟩; have hK := hK.trans h))
  have hS := Since.refl W0
  obtain ⟨W2, hW2⟩ : ∃ W2, W2 = w2.alloc (.cells #[.bool (ngB (-(sval na xs))), .slice X (mag (-(sval na xs))).length x] 24) := ⟨_, rfl⟩
  rw [← hW2]
  have hx : Since w2 W2 := by rw [hW2]; exact since_alloc _ _
  have hg := hK.trans hx
  have qbW2 : w.heap.size + 1 < w2.heap.size := (hbx.out _ (hS.trans hK)).2.lt
  have Vn : Hid (∀ W', Since W2 W' → Bx W' (w2.heap.size) #[.bool (ngB (-(sval na xs))), .slice X (mag (-(sval na xs))).length x] 24) := fun W' h => Bx.new (hW2 ▸ h) (by simp)
  have rx := rx.since hx
  have hS := hS.trans hg
  clear hW2 hx hg hK
  generalize w2.heap.size = bkW2 at *
  have hK := Since.refl W2
  obtain ⟨B0, gr⟩ := hbx.out _ (hS.trans hK)
  obtain ⟨k0a, k0b, k0c, k0d⟩ := B0.four
  obtain ⟨r0a, r0b, r0c, r0d⟩ := gr.four
  obtain ⟨f0a, f0b, f0c, f0d⟩ := gr.four'
  obtain ⟨vna, vnb⟩ := (Vn.out _ hK).two
  go_wp2_with fail
  obtain ⟨r0a, r0b, r0c, r0d⟩ := gr.four
  obtain ⟨f0a, f0b, f0c, f0d⟩ := gr.four'
  refine bodyPost_ret (v := (.tuple #[.agg #[.bool (ngB (-(sval na xs))), .slice X (mag (-(sval na xs))).length x, .bool nb, .slice A1 ys.length c1], .int .i64 0])) ?_ rfl ?_
  · simp [results, Tryz.results15, go_sem, r0a, r0b, r0c, r0d]
  · rw [FN.out]; exact ⟨_, _, _, _, rfl, gr.rowsR rx (put4_far _ _ _ _ _ _), gr.rowsR (H.out.2.since (hS0.trans (hS.trans hK))) (put4_far _ _ _ _ _ _), since_put4 (hS0.trans (hS.trans hK)) (by omega) _ _ _ _⟩
theorem div_fl {na nb : Bool} {xs ys : List Nat} (h : rrB ((na, xs), (nb, ys)) = true) : divZ na xs nb ys = ((pz ((sval na xs).fdiv (sval nb ys)), pz ((sval na xs).fmod (sval nb ys))), 0) := by
  obtain ⟨h1, h2, _, _, _, h6⟩ := well_parts (rr_parts h).1
  exact if_pos ⟨⟨h1, h2⟩, h6⟩
set_option maxRecDepth 100000 in
set_option maxHeartbeats 4000000 in
theorem floor_any (A0 A1 : Option Addr) (c0 c1 : Nat) (na nb : Bool) (xs ys : List Nat) (w : World) (hx : Row w (.slice A0 xs.length c0) xs) (hy : Row w (.slice A1 ys.length c1) ys) (lx : xs.length ≤ 1000) (ly : ys.length ≤ 1000) :
    Calls Tryz.prog 25 #[.agg #[.bool na, .slice A0 xs.length c0, .bool nb, .slice A1 ys.length c1]] w (RetN (floorR ((na, xs), (nb, ys))) w) := by
  have H := Lib.hid (And.intro hx hy)
  have LL := Lib.hid (And.intro lx ly)
  obtain ⟨W0, hW0⟩ : ∃ W0, W0 = (w.alloc (.cells #[.bool na, .slice A0 xs.length c0, .bool nb, .slice A1 ys.length c1] 26)).alloc (.cells #[.bool false, .slice none 0 0] 24) := ⟨_, rfl⟩
  have HW := Lib.hid hW0
  have hS0 : Since w W0 := by rw [hW0]; exact ((Since.refl w).alloc _).alloc _
  have hbx : Hid (∀ W : World, Since W0 W → Bx W (w.heap.size) #[.bool na, .slice A0 xs.length c0, .bool nb, .slice A1 ys.length c1] 26 ∧ Bx W (w.heap.size + 1) #[.bool false, .slice none 0 0] 24) := fun W h => ⟨Bx.new ((since_alloc _ _).trans (hW0 ▸ h)) (by simp), Bx.new (hW0 ▸ h) (by simp)⟩
  clear hW0
  have hK := Since.refl W0
  clear hx hy lx ly
  by_cases rr : rrB ((na, xs), (nb, ys)) = true
  rotate_left
  · have FN := Lib.hid (show floorR ((na, xs), (nb, ys)) = ((false, []), 2) from if_neg rr)
    have RR := Lib.hid (show rrB ((na, xs), (nb, ys)) = false by simpa using rr)
    clear rr
    go_enter Tryz.func25, Tryz.ntmps25
    go_wp2_with fail
    rw [← HW.out]
    obtain ⟨B0, B1⟩ := hbx.out _ hK; obtain ⟨k0a, k0b, k0c, k0d⟩ := B0.four; obtain ⟨r0a, r0b⟩ := B1.two; obtain ⟨f0a, f0b⟩ := B1.two'
    go_wp2_with (first
      | (go_at_call 31; (with_reducible refine (right_any A0 A1 c0 c1 na nb xs ys _ (H.out.1.since (hS0.trans hK)) (H.out.2.since (hS0.trans hK)) (by have := LL.out; omega) (by have := LL.out; omega)).mono ?_); rw [RR.out]; rintro e w1 ⟨rfl, h⟩; have hK := hK.trans h; obtain ⟨B0, B1⟩ := hbx.out _ hK; obtain ⟨k0a, k0b, k0c, k0d⟩ := B0.four; obtain ⟨r0a, r0b⟩ := B1.two; obtain ⟨f0a, f0b⟩ := B1.two'))
    have gr := (hbx.out _ hK).2
    obtain ⟨r0a, r0b⟩ := gr.two
    obtain ⟨f0a, f0b⟩ := gr.two'
    refine bodyPost_ret (v := .tuple #[.agg #[.bool false, .slice none 0 0], .int .i64 2]) ?_ rfl ?_
    · simp [results, Tryz.results25, go_sem, r0a, r0b]
    · rw [FN.out]; exact ⟨_, _, rfl, gr.rowsI (Row.nil _) (put2_far _ _ _ _), since_put2 (hS0.trans hK) (by omega) _ _⟩
  have RR := Lib.hid rr
  have DD := Lib.hid (div_fl rr)
  obtain ⟨q, hq⟩ : ∃ q, q = (sval na xs).fdiv (sval nb ys) := ⟨_, rfl⟩
  obtain ⟨m, hm⟩ : ∃ m, m = (sval na xs).fmod (sval nb ys) := ⟨_, rfl⟩
  rw [← hq, ← hm] at DD
  have FN := Lib.hid (show floorR ((na, xs), (nb, ys)) = (pz q, 0) from hq ▸ if_pos rr)
  clear rr hq hm
  go_enter Tryz.func25, Tryz.ntmps25
  go_wp2_with fail
  rw [← HW.out]
  obtain ⟨B0, B1⟩ := hbx.out _ hK; obtain ⟨k0a, k0b, k0c, k0d⟩ := B0.four; obtain ⟨r0a, r0b⟩ := B1.two; obtain ⟨f0a, f0b⟩ := B1.two'
  go_upto_region 4 with (first
    | (go_at_call 31; (with_reducible refine (right_any A0 A1 c0 c1 na nb xs ys _ (H.out.1.since (hS0.trans hK)) (H.out.2.since (hS0.trans hK)) (by have := LL.out; omega) (by have := LL.out; omega)).mono ?_); rw [RR.out]; rintro e w1 ⟨rfl, h⟩; have hK := hK.trans h; obtain ⟨B0, B1⟩ := hbx.out _ hK; obtain ⟨k0a, k0b, k0c, k0d⟩ := B0.four; obtain ⟨r0a, r0b⟩ := B1.two; obtain ⟨f0a, f0b⟩ := B1.two')
    | (go_at_call 54; (with_reducible refine (div_at A0 A1 c0 c1 na nb xs ys _ (H.out.1.since (hS0.trans hK)) (H.out.2.since (hS0.trans hK)) (by have := LL.out; omega) (by have := LL.out; omega) DD.out rfl).mono ?_); rintro e w2 ⟨X, x, Y, y, rfl, rx, ry, h⟩; have hK := hK.trans h))
  have hS := Since.refl W0
  obtain ⟨W2, hW2⟩ : ∃ W2, W2 = (w2.alloc (.cells #[.bool (ngB q), .slice X (mag q).length x] 24)).alloc (.cells #[.bool (ngB m), .slice Y (mag m).length y] 24) := ⟨_, rfl⟩
  rw [← hW2]
  have hx : Since w2 W2 := by rw [hW2]; exact (since_alloc _ _).trans (since_alloc _ _)
  have hg := hK.trans hx
  have qbW2 : w.heap.size + 1 < w2.heap.size := (hbx.out _ (hS.trans hK)).2.lt
  have Vn : Hid (∀ W', Since W2 W' → Bx W' (w2.heap.size) #[.bool (ngB q), .slice X (mag q).length x] 24) := fun W' h => Bx.new ((since_alloc _ _).trans (hW2 ▸ h)) (by simp)
  have rx := rx.since hx
  have hS := hS.trans hg
  clear hW2 hx hg hK
  generalize w2.heap.size = bkW2 at *
  have hK := Since.refl W2
  obtain ⟨B0, gr⟩ := hbx.out _ (hS.trans hK)
  obtain ⟨r0a, r0b⟩ := gr.two
  obtain ⟨f0a, f0b⟩ := gr.two'
  obtain ⟨vna, vnb⟩ := (Vn.out _ hK).two
  go_wp2_with fail
  obtain ⟨r0a, r0b⟩ := gr.two
  obtain ⟨f0a, f0b⟩ := gr.two'
  refine bodyPost_ret (v := .tuple #[.agg #[.bool (ngB q), .slice X (mag q).length x], .int .i64 0]) ?_ rfl ?_
  · simp [results, Tryz.results25, go_sem, r0a, r0b]
  · rw [FN.out]; exact ⟨_, _, rfl, gr.rowsI rx (put2_far _ _ _ _), since_put2 (hS0.trans (hS.trans hK)) (by omega) _ _⟩
end Go.Proofs.YtbbemgeinlehmaaGreatDoor.Ref04

namespace Go.Proofs.YtbbemgeinlehmaaGreatDoor.Ref04
open Go.RowKit
set_option linter.unusedVariables false
open Go.Proofs.YtbbemgeinlehmaaGreatDoor.Dig Go.Proofs.YtbbemgeinlehmaaGreatDoor.R4 Go.Proofs.YtbbemgeinlehmaaGreatDoor.Fr
open Go.Proofs.YtbbemgeinlehmaaGreatDoor.Ref03 (sv srightB gcdZ divZ negZ mulZ addZ cmpZ textZ sval ngB mag RetZ RetQR RetS)

theorem sgn_mul (na nb : Bool) (xs ys : List Nat) (lx : srightB na xs = true) (ly : srightB nb ys = true) : Ref03.signB (na != nb) (digs (num xs * num ys)) = ngB (sval na xs * sval nb ys) ∧ digs (num xs * num ys) = mag (sval na xs * sval nb ys) := by
  have e : sval na xs * sval nb ys = Ref03.sgn (na != nb) (num xs * num ys) := by
    unfold sval Ref03.sgn
    cases na <;> cases nb <;> simp [Int.neg_mul, Int.mul_neg]
  rw [e]
  exact Ref03.ng_sgn _ _
theorem times_at (A0 A1 : Option Addr) (c0 c1 : Nat) (na nb : Bool) (xs ys : List Nat) (w : World) (hx : Row w (.slice A0 xs.length c0) xs) (hy : Row w (.slice A1 ys.length c1) ys) (lx : xs.length ≤ 1000) (ly : ys.length ≤ 1000) {z : Int} (h : (srightB na xs = true ∧ srightB nb ys = true) ∧ sval na xs * sval nb ys = z) :
    Calls Tryz.prog 47 #[sv na (.slice A0 xs.length c0), sv nb (.slice A1 ys.length c1)] w fun e w' => ∃ A c, e = .returned (sv (ngB z) (.slice A (mag z).length c)) ∧ Row w' (.slice A (mag z).length c) (mag z) ∧ Since w w' := by
  have k := Ref03.times_any A0 A1 c0 c1 na nb xs ys w hx hy lx ly
  obtain ⟨e1, e2⟩ := sgn_mul na nb xs ys h.1.1 h.1.2
  rw [e1, e2, h.2] at k
  exact k
theorem sum_at (A0 A1 : Option Addr) (c0 c1 : Nat) (x y : Int) (w : World) (hx : Row w (.slice A0 (mag x).length c0) (mag x)) (hy : Row w (.slice A1 (mag y).length c1) (mag y)) (lx : (mag x).length ≤ 1000) (ly : (mag y).length ≤ 1000) {z : Int} (h : x + y = z) :
    Calls Tryz.prog 46 #[sv (ngB x) (.slice A0 (mag x).length c0), sv (ngB y) (.slice A1 (mag y).length c1)] w fun e w' => ∃ A c, e = .returned (sv (ngB z) (.slice A (mag z).length c)) ∧ Row w' (.slice A (mag z).length c) (mag z) ∧ Since w w' := by
  have k := Ref03.sum_any A0 A1 c0 c1 (ngB x) (ngB y) (mag x) (mag y) w hx hy lx ly (norm_digs _) (norm_digs _)
  rw [Bk.sval_mag, Bk.sval_mag, h] at k
  exact k
theorem cmp_at (A0 A1 : Option Addr) (c0 c1 : Nat) (x y : Int) (w : World) (hx : Row w (.slice A0 (mag x).length c0) (mag x)) (hy : Row w (.slice A1 (mag y).length c1) (mag y)) (lx : (mag x).length ≤ 256) (ly : (mag y).length ≤ 256) :
    Calls Tryz.prog 51 #[sv (ngB x) (.slice A0 (mag x).length c0), sv (ngB y) (.slice A1 (mag y).length c1)] w fun e w' => e = .returned (.tuple #[.int .i64 (cmpI x y), .int .i64 0]) ∧ Since w w' := by
  have k := Ref03.cmp_any A0 A1 c0 c1 (ngB x) (ngB y) (mag x) (mag y) w hx hy (by omega) (by omega)
  have e : cmpZ (ngB x) (mag x) (ngB y) (mag y) = (cmpI x y, 0) := by
    unfold cmpZ cmpI
    rw [if_pos ⟨Bk.right_mag lx, Bk.right_mag ly⟩, Bk.sval_mag, Bk.sval_mag]
    split
    · rfl
    · split <;> rfl
  rw [e] at k
  exact k
/-- how many digits numbers of right fractions have, and their products and sums -/
structure Facts (a b : Fz) : Prop where
  w1 : srightB a.1.1 a.1.2 = true
  w2 : srightB a.2.1 a.2.2 = true
  w3 : srightB b.1.1 b.1.2 = true
  w4 : srightB b.2.1 b.2.2 = true
  z2 : a.2.2.length ≠ 0
  z4 : b.2.2.length ≠ 0
  l1 : (mag ((valF a).1 * (valF b).2)).length ≤ 130
  l2 : (mag ((valF b).1 * (valF a).2)).length ≤ 130
  l3 : (mag ((valF a).2 * (valF b).2)).length ≤ 130
  l4 : (mag ((valF a).1 * (valF b).1)).length ≤ 130
  l5 : (mag ((valF a).1 * (valF b).2 + (valF b).1 * (valF a).2)).length ≤ 131
theorem facts {a b : Fz} (d1 : IsDig a.1.2) (d2 : IsDig a.2.2) (d3 : IsDig b.1.2) (d4 : IsDig b.2.2) (ra : rrB a = true) (rb : rrB b = true) : Facts a b := by
  obtain ⟨p1, p2, p3, p4, p5, p6⟩ := well_parts (rr_parts ra).1
  obtain ⟨q1, q2, q3, q4, q5, q6⟩ := well_parts (rr_parts rb).1
  obtain ⟨_, _, m1, m2⟩ := rr_low d1 d2 ra
  obtain ⟨_, _, m3, m4⟩ := rr_low d3 d4 rb
  have u1 := und_of m1
  have u2 := und_of m2
  have u3 := und_of m3
  have u4 := und_of m4
  exact ⟨p1, p2, q1, q2, p6, q6, und_len ((u1.mul u4).up (by omega)), und_len ((u3.mul u2).up (by omega)), und_len ((u2.mul u4).up (by omega)), und_len ((u1.mul u3).up (by omega)), und_len (((u1.mul u4).add ((u3.mul u2).up (by omega))).up (by omega))⟩
theorem sval_ne {b : Bool} {ds : List Nat} (h : srightB b ds = true) (h0 : ds.length ≠ 0) : sval b ds ≠ 0 := by
  have := num_pos (right_norm (Ref03.sright_right h)).2 h0
  unfold sval; split <;> omega
set_option maxRecDepth 100000 in
set_option maxHeartbeats 4000000 in
theorem cmp_any (A0 A1 A2 A3 : Option Addr) (c0 c1 c2 c3 : Nat) (na nb nc nd : Bool) (xs ys us vs : List Nat) (w : World) (hx : Row w (.slice A0 xs.length c0) xs) (hy : Row w (.slice A1 ys.length c1) ys) (hu : Row w (.slice A2 us.length c2) us) (hv : Row w (.slice A3 vs.length c3) vs) (lx : xs.length ≤ 1000) (ly : ys.length ≤ 1000) (lu : us.length ≤ 1000) (lv : vs.length ≤ 1000) :
    Calls Tryz.prog 17 #[.agg #[.bool na, .slice A0 xs.length c0, .bool nb, .slice A1 ys.length c1], .agg #[.bool nc, .slice A2 us.length c2, .bool nd, .slice A3 vs.length c3]] w fun e w' => e = .returned (.tuple #[.int .i64 (cmpR ((na, xs), (nb, ys)) ((nc, us), (nd, vs))).1, .int .i64 (cmpR ((na, xs), (nb, ys)) ((nc, us), (nd, vs))).2]) ∧ Since w w' := by
  have H := Lib.hid (And.intro hx (And.intro hy (And.intro hu hv)))
  have LL := Lib.hid (And.intro lx (And.intro ly (And.intro lu lv)))
  clear hx hy hu hv lx ly lu lv
  obtain ⟨W0, hW0⟩ : ∃ W0, W0 = (w.alloc (.cells #[.bool na, .slice A0 xs.length c0, .bool nb, .slice A1 ys.length c1] 26)).alloc (.cells #[.bool nc, .slice A2 us.length c2, .bool nd, .slice A3 vs.length c3] 26) := ⟨_, rfl⟩
  have HW := Lib.hid hW0
  have hS0 : Since w W0 := by rw [hW0]; exact ((Since.refl w).alloc _).alloc _
  have hbx : Hid (∀ W : World, Since W0 W → Bx W (w.heap.size) #[.bool na, .slice A0 xs.length c0, .bool nb, .slice A1 ys.length c1] 26 ∧ Bx W (w.heap.size + 1) #[.bool nc, .slice A2 us.length c2, .bool nd, .slice A3 vs.length c3] 26) := fun W h => ⟨Bx.new ((since_alloc _ _).trans (hW0 ▸ h)) (by simp), Bx.new (hW0 ▸ h) (by simp)⟩
  clear hW0
  have hK := Since.refl W0
  by_cases ra : rrB ((na, xs), (nb, ys)) = true
  rotate_left
  · have FN := Lib.hid (show cmpR ((na, xs), (nb, ys)) ((nc, us), (nd, vs)) = (0, 2) from if_neg (fun h => ra h.1))
    have RA := Lib.hid (show rrB ((na, xs), (nb, ys)) = false by simpa using ra)
    clear ra
    go_enter Tryz.func17, Tryz.ntmps17
    go_wp2_with fail
    rw [← HW.out]
    obtain ⟨B0, B1⟩ := hbx.out _ hK; obtain ⟨k0a, k0b, k0c, k0d⟩ := B0.four; obtain ⟨k1a, k1b, k1c, k1d⟩ := B1.four
    go_wp2_with (first
      | (go_at_call 31; (with_reducible refine (right_any A0 A1 c0 c1 na nb xs ys _ (H.out.1.since (hS0.trans hK)) (H.out.2.1.since (hS0.trans hK)) (by have := LL.out; omega) (by have := LL.out; omega)).mono ?_); rw [RA.out]; rintro e w1 ⟨rfl, h⟩; have hK := hK.trans h; obtain ⟨B0, B1⟩ := hbx.out _ hK; obtain ⟨k0a, k0b, k0c, k0d⟩ := B0.four; obtain ⟨k1a, k1b, k1c, k1d⟩ := B1.four))
    refine bodyPost_ret (v := .tuple #[.int .i64 0, .int .i64 2]) ?_ rfl ?_
    · simp [results, Tryz.results17, go_sem]
    · rw [FN.out]; exact ⟨rfl, hS0.trans hK⟩
  have RA := Lib.hid ra
  by_cases rb : rrB ((nc, us), (nd, vs)) = true
  rotate_left
  · have FN := Lib.hid (show cmpR ((na, xs), (nb, ys)) ((nc, us), (nd, vs)) = (0, 2) from if_neg (fun h => rb h.2))
    have RB := Lib.hid (show rrB ((nc, us), (nd, vs)) = false by simpa using rb)
    clear ra rb
    go_enter Tryz.func17, Tryz.ntmps17
    go_wp2_with fail
    rw [← HW.out]
    obtain ⟨B0, B1⟩ := hbx.out _ hK; obtain ⟨k0a, k0b, k0c, k0d⟩ := B0.four; obtain ⟨k1a, k1b, k1c, k1d⟩ := B1.four
    go_wp2_with (first
      | (go_at_call 31; (with_reducible refine (right_any A0 A1 c0 c1 na nb xs ys _ (H.out.1.since (hS0.trans hK)) (H.out.2.1.since (hS0.trans hK)) (by have := LL.out; omega) (by have := LL.out; omega)).mono ?_); rw [RA.out]; rintro e w1 ⟨rfl, h⟩; have hK := hK.trans h; obtain ⟨B0, B1⟩ := hbx.out _ hK; obtain ⟨k0a, k0b, k0c, k0d⟩ := B0.four; obtain ⟨k1a, k1b, k1c, k1d⟩ := B1.four)
      | (go_at_call 31; (with_reducible refine (right_any A2 A3 c2 c3 nc nd us vs _ (H.out.2.2.1.since (hS0.trans hK)) (H.out.2.2.2.since (hS0.trans hK)) (by have := LL.out; omega) (by have := LL.out; omega)).mono ?_); rw [RB.out]; rintro e w2 ⟨rfl, h⟩; have hK := hK.trans h; obtain ⟨B0, B1⟩ := hbx.out _ hK; obtain ⟨k0a, k0b, k0c, k0d⟩ := B0.four; obtain ⟨k1a, k1b, k1c, k1d⟩ := B1.four))
    refine bodyPost_ret (v := .tuple #[.int .i64 0, .int .i64 2]) ?_ rfl ?_
    · simp [results, Tryz.results17, go_sem]
    · rw [FN.out]; exact ⟨rfl, hS0.trans hK⟩
  have RB := Lib.hid rb
  have FA := Lib.hid (facts H.out.1.dig H.out.2.1.dig H.out.2.2.1.dig H.out.2.2.2.dig ra rb)
  obtain ⟨z1, ez1⟩ : ∃ z : Int, sval na xs * sval nd vs = z := ⟨_, rfl⟩
  have Ez1 := Lib.hid (show (_ ∧ _) ∧ _ = _ from ⟨⟨FA.out.w1, FA.out.w4⟩, ez1⟩)
  have Lz1 := Lib.hid (show (mag z1).length ≤ 130 by rw [← ez1]; exact FA.out.l1)
  obtain ⟨z2, ez2⟩ : ∃ z : Int, sval nc us * sval nb ys = z := ⟨_, rfl⟩
  have Ez2 := Lib.hid (show (_ ∧ _) ∧ _ = _ from ⟨⟨FA.out.w3, FA.out.w2⟩, ez2⟩)
  have Lz2 := Lib.hid (show (mag z2).length ≤ 130 by rw [← ez2]; exact FA.out.l2)
  have FN := Lib.hid (show cmpR ((na, xs), (nb, ys)) ((nc, us), (nd, vs)) = (cmpI z1 z2, 0) by rw [← ez1, ← ez2]; exact if_pos ⟨ra, rb⟩)
  clear ra rb ez1 ez2
  go_enter Tryz.func17, Tryz.ntmps17
  go_wp2_with fail
  rw [← HW.out]
  obtain ⟨B0, B1⟩ := hbx.out _ hK; obtain ⟨k0a, k0b, k0c, k0d⟩ := B0.four; obtain ⟨k1a, k1b, k1c, k1d⟩ := B1.four
  go_upto_region 3 with (first
    | (go_at_call 31; (with_reducible refine (right_any A0 A1 c0 c1 na nb xs ys _ (H.out.1.since (hS0.trans hK)) (H.out.2.1.since (hS0.trans hK)) (by have := LL.out; omega) (by have := LL.out; omega)).mono ?_); rw [RA.out]; rintro e w1 ⟨rfl, h⟩; have hK := hK.trans h; obtain ⟨B0, B1⟩ := hbx.out _ hK; obtain ⟨k0a, k0b, k0c, k0d⟩ := B0.four; obtain ⟨k1a, k1b, k1c, k1d⟩ := B1.four)
    | (go_at_call 31; (with_reducible refine (right_any A2 A3 c2 c3 nc nd us vs _ (H.out.2.2.1.since (hS0.trans hK)) (H.out.2.2.2.since (hS0.trans hK)) (by have := LL.out; omega) (by have := LL.out; omega)).mono ?_); rw [RB.out]; rintro e w2 ⟨rfl, h⟩; have hK := hK.trans h; obtain ⟨B0, B1⟩ := hbx.out _ hK; obtain ⟨k0a, k0b, k0c, k0d⟩ := B0.four; obtain ⟨k1a, k1b, k1c, k1d⟩ := B1.four))
  have hB := hK
  have hall : Hid (∀ W : World, Since w2 W → W.cell? ⟨w.heap.size, 0, none⟩ = some (.bool na) ∧ W.cell? ⟨w.heap.size, 1, none⟩ = some (.slice A0 xs.length c0) ∧ W.cell? ⟨w.heap.size, 2, none⟩ = some (.bool nb) ∧ W.cell? ⟨w.heap.size, 3, none⟩ = some (.slice A1 ys.length c1) ∧ W.cell? ⟨w.heap.size + 1, 0, none⟩ = some (.bool nc) ∧ W.cell? ⟨w.heap.size + 1, 1, none⟩ = some (.slice A2 us.length c2) ∧ W.cell? ⟨w.heap.size + 1, 2, none⟩ = some (.bool nd) ∧ W.cell? ⟨w.heap.size + 1, 3, none⟩ = some (.slice A3 vs.length c3)) := fun W h => by
    obtain ⟨B0, B1⟩ := hbx.out _ (hB.trans h)
    obtain ⟨k0a, k0b, k0c, k0d⟩ := B0.four
    obtain ⟨k1a, k1b, k1c, k1d⟩ := B1.four
    exact ⟨k0a, k0b, k0c, k0d, k1a, k1b, k1c, k1d⟩
  have hr0 : Since w2 w2.drew := Since.drew (Since.refl w2)
  refine wp_region_noPanic ?_
  refine Reg.wp_region_G (S := fun W => W.cell? ⟨w.heap.size, 0, none⟩ = some (.bool na) ∧ W.cell? ⟨w.heap.size, 1, none⟩ = some (.slice A0 xs.length c0) ∧ W.cell? ⟨w.heap.size, 2, none⟩ = some (.bool nb) ∧ W.cell? ⟨w.heap.size, 3, none⟩ = some (.slice A1 ys.length c1) ∧ W.cell? ⟨w.heap.size + 1, 0, none⟩ = some (.bool nc) ∧ W.cell? ⟨w.heap.size + 1, 1, none⟩ = some (.slice A2 us.length c2) ∧ W.cell? ⟨w.heap.size + 1, 2, none⟩ = some (.bool nd) ∧ W.cell? ⟨w.heap.size + 1, 3, none⟩ = some (.slice A3 vs.length c3)) (fun j => [].contains j) (by kernel_rfl) ?_ ?_
  · exact hall.out _ hr0
  refine' Reg.wpG_take (i := 0) (oi := { dst := some 17, op := Op.fieldAddr 26 (Operand.tmp 2) 0, type := 0, pos := "ref.go:62", after := #[], guard := none }) (v := _) [1, 4, 9, 10, 11, 12, 13, 14, 15] [] rfl rfl (by kernel_rfl) (by kernel_rfl) (by kernel_rfl) (by kernel_rfl) (by kernel_rfl) (by kernel_rfl) (by kernel_rfl) (fun _ _ _ h => h) (Or.inl ⟨by rfl, Or.inl ?hy2⟩) ?rest2
  case hy2 => (intro w' kk ss; (try dsimp only at ss); go_simp; first | done | with_reducible rfl)
  try simp only [Act.put, List.setIfInBounds_toArray, List.set_cons_zero, List.set_cons_succ]
  refine' Reg.wpG_take (i := 1) (oi := { dst := some 18, op := Op.load 24 (Operand.tmp 17), type := 24, pos := "ref.go:62", after := #[{ on := 0, ground := Ground.data }], guard := none }) (v := _) [4, 9, 10, 11, 12, 13, 14, 15] [] rfl rfl (by kernel_rfl) (by kernel_rfl) (by kernel_rfl) (by kernel_rfl) (by kernel_rfl) (by kernel_rfl) (by kernel_rfl) (fun _ _ _ h => h) (Or.inl ⟨by rfl, Or.inl ?hy3⟩) ?rest3
  case hy3 => (intro w' kk ss; (try dsimp only at ss); go_simp; first | done | with_reducible rfl)
  try simp only [Act.put, List.setIfInBounds_toArray, List.set_cons_zero, List.set_cons_succ]
  refine' Reg.wpG_take (i := 2) (oi := { dst := some 19, op := Op.fieldAddr 26 (Operand.tmp 3) 1, type := 0, pos := "ref.go:62", after := #[], guard := none }) (v := _) [3, 4, 9, 10, 11, 12, 13, 14, 15] [] rfl rfl (by kernel_rfl) (by kernel_rfl) (by kernel_rfl) (by kernel_rfl) (by kernel_rfl) (by kernel_rfl) (by kernel_rfl) (fun _ _ _ h => h) (Or.inl ⟨by rfl, Or.inl ?hy4⟩) ?rest4
  case hy4 => (intro w' kk ss; (try dsimp only at ss); go_simp; first | done | with_reducible rfl)
  try simp only [Act.put, List.setIfInBounds_toArray, List.set_cons_zero, List.set_cons_succ]
  refine' Reg.wpG_take (i := 3) (oi := { dst := some 20, op := Op.load 24 (Operand.tmp 19), type := 24, pos := "ref.go:62", after := #[{ on := 2, ground := Ground.data }], guard := none }) (v := _) [4, 9, 10, 11, 12, 13, 14, 15] [] rfl rfl (by kernel_rfl) (by kernel_rfl) (by kernel_rfl) (by kernel_rfl) (by kernel_rfl) (by kernel_rfl) (by kernel_rfl) (fun _ _ _ h => h) (Or.inl ⟨by rfl, Or.inl ?hy5⟩) ?rest5
  case hy5 => (intro w' kk ss; (try dsimp only at ss); go_simp; first | done | with_reducible rfl)
  try simp only [Act.put, List.setIfInBounds_toArray, List.set_cons_zero, List.set_cons_succ]
  refine' Reg.wpG_take (i := 5) (oi := { dst := some 22, op := Op.fieldAddr 26 (Operand.tmp 3) 0, type := 0, pos := "ref.go:62", after := #[], guard := none }) (v := _) [6, 9, 10, 11, 12, 13, 14, 15] [] rfl rfl (by kernel_rfl) (by kernel_rfl) (by kernel_rfl) (by kernel_rfl) (by kernel_rfl) (by kernel_rfl) (by kernel_rfl) (fun _ _ _ h => h) (Or.inl ⟨by rfl, Or.inl ?hy6⟩) ?rest6
  case hy6 => (intro w' kk ss; (try dsimp only at ss); go_simp; first | done | with_reducible rfl)
  try simp only [Act.put, List.setIfInBounds_toArray, List.set_cons_zero, List.set_cons_succ]
  refine' Reg.wpG_take (i := 6) (oi := { dst := some 23, op := Op.load 24 (Operand.tmp 22), type := 24, pos := "ref.go:62", after := #[{ on := 5, ground := Ground.data }], guard := none }) (v := _) [9, 10, 11, 12, 13, 14, 15] [] rfl rfl (by kernel_rfl) (by kernel_rfl) (by kernel_rfl) (by kernel_rfl) (by kernel_rfl) (by kernel_rfl) (by kernel_rfl) (fun _ _ _ h => h) (Or.inl ⟨by rfl, Or.inl ?hy7⟩) ?rest7
  case hy7 => (intro w' kk ss; (try dsimp only at ss); go_simp; first | done | with_reducible rfl)
  try simp only [Act.put, List.setIfInBounds_toArray, List.set_cons_zero, List.set_cons_succ]
  refine' Reg.wpG_take (i := 7) (oi := { dst := some 24, op := Op.fieldAddr 26 (Operand.tmp 2) 1, type := 0, pos := "ref.go:62", after := #[], guard := none }) (v := _) [8, 9, 10, 11, 12, 13, 14, 15] [] rfl rfl (by kernel_rfl) (by kernel_rfl) (by kernel_rfl) (by kernel_rfl) (by kernel_rfl) (by kernel_rfl) (by kernel_rfl) (fun _ _ _ h => h) (Or.inl ⟨by rfl, Or.inl ?hy8⟩) ?rest8
  case hy8 => (intro w' kk ss; (try dsimp only at ss); go_simp; first | done | with_reducible rfl)
  try simp only [Act.put, List.setIfInBounds_toArray, List.set_cons_zero, List.set_cons_succ]
  refine' Reg.wpG_take (i := 8) (oi := { dst := some 25, op := Op.load 24 (Operand.tmp 24), type := 24, pos := "ref.go:62", after := #[{ on := 7, ground := Ground.data }], guard := none }) (v := _) [9, 10, 11, 12, 13, 14, 15] [] rfl rfl (by kernel_rfl) (by kernel_rfl) (by kernel_rfl) (by kernel_rfl) (by kernel_rfl) (by kernel_rfl) (by kernel_rfl) (fun _ _ _ h => h) (Or.inl ⟨by rfl, Or.inl ?hy9⟩) ?rest9
  case hy9 => (intro w' kk ss; (try dsimp only at ss); go_simp; first | done | with_reducible rfl)
  try simp only [Act.put, List.setIfInBounds_toArray, List.set_cons_zero, List.set_cons_succ]
  refine Reg.wpG_ready (rs := [4]) (by kernel_rfl) (by simp) (fun wq1001 k1001' sq1001 => ?_)
  have hr0 := hr0.trans k1001'
  refine Reg.AllG.first (o := { dst := some 21, op := Op.call { callee := Callee.value (Operand.func 47), args := #[Operand.tmp 18, Operand.tmp 20], argTypes := #[24, 24] }, type := 24, pos := "ref.go:62", after := #[{ on := 1, ground := Ground.data }, { on := 3, ground := Ground.data }], guard := none }) rfl (by rfl) (fun K hK => ?_) Reg.AllG.nil
  have sq := hall.out _ hr0
  go_simp
  (with_reducible refine (times_at A0 A3 c0 c3 na nd xs vs wq1001 (H.out.1.since (hS0.trans (hB.trans hr0))) (H.out.2.2.2.since (hS0.trans (hB.trans hr0))) (by have := LL.out; omega) (by have := LL.out; omega) Ez1.out).mono ?_)
  rintro e y1001 ⟨X, x, rfl, rx, hx⟩
  refine hK.out _ _ ?_ hx ?_
  · exact hall.out _ (hr0.trans hx)
  clear hK K sq
  have hr0 := hr0.trans hx
  clear hx
  try simp only [Act.put, List.setIfInBounds_toArray, List.set_cons_zero, List.set_cons_succ]
  refine Reg.wpG_ready (rs := [9]) (by kernel_rfl) (by simp) (fun wq1002 k1002' sq1002 => ?_)
  have hr0 := hr0.trans k1002'
  have rx := rx.since k1002'
  refine Reg.AllG.first (o := { dst := some 26, op := Op.call { callee := Callee.value (Operand.func 47), args := #[Operand.tmp 23, Operand.tmp 25], argTypes := #[24, 24] }, type := 24, pos := "ref.go:62", after := #[{ on := 6, ground := Ground.data }, { on := 8, ground := Ground.data }, { on := 4, ground := Ground.chain }], guard := none }) rfl (by rfl) (fun K hK => ?_) Reg.AllG.nil
  have sq := hall.out _ hr0
  go_simp
  (with_reducible refine (times_at A2 A1 c2 c1 nc nb us ys wq1002 (H.out.2.2.1.since (hS0.trans (hB.trans hr0))) (H.out.2.1.since (hS0.trans (hB.trans hr0))) (by have := LL.out; omega) (by have := LL.out; omega) Ez2.out).mono ?_)
  rintro e y1002 ⟨Y, y, rfl, ry, hx⟩
  refine hK.out _ _ ?_ hx ?_
  · exact hall.out _ (hr0.trans hx)
  clear hK K sq
  have hr0 := hr0.trans hx
  have rx := rx.since hx
  clear hx
  try simp only [Act.put, List.setIfInBounds_toArray, List.set_cons_zero, List.set_cons_succ]
  refine Reg.wpG_ready (rs := [10]) (by kernel_rfl) (by simp) (fun wq1003 k1003' sq1003 => ?_)
  have hr0 := hr0.trans k1003'
  have rx := rx.since k1003'
  have ry := ry.since k1003'
  refine Reg.AllG.first (o := { dst := some 27, op := Op.call { callee := Callee.value (Operand.func 51), args := #[Operand.tmp 21, Operand.tmp 26], argTypes := #[24, 24] }, type := 42, pos := "ref.go:62", after := #[{ on := 4, ground := Ground.data }, { on := 9, ground := Ground.data }, { on := 9, ground := Ground.chain }], guard := none }) rfl (by rfl) (fun K hK => ?_) Reg.AllG.nil
  have sq := hall.out _ hr0
  go_simp
  (with_reducible refine (cmp_at X Y x y z1 z2 wq1003 rx ry (by have := Lz1.out; omega) (by have := Lz2.out; omega)).mono ?_)
  rintro e y1003 ⟨rfl, hx⟩
  refine hK.out _ _ ?_ hx ?_
  · exact hall.out _ (hr0.trans hx)
  clear hK K sq
  have hr0 := hr0.trans hx
  have rx := rx.since hx
  have ry := ry.since hx
  clear hx
  try simp only [Act.put, List.setIfInBounds_toArray, List.set_cons_zero, List.set_cons_succ]
  refine' Reg.wpG_take (i := 11) (oi := { dst := some 16, op := Op.move (Operand.tmp 27), type := 42, pos := "ref.go:62", after := #[{ on := 10, ground := Ground.data }], guard := none }) (v := _) [12, 13, 14, 15] [] rfl rfl (by kernel_rfl) (by kernel_rfl) (by kernel_rfl) (by kernel_rfl) (by kernel_rfl) (by kernel_rfl) (by kernel_rfl) (fun _ _ _ h => h) (Or.inl ⟨by rfl, Or.inl ?hy10⟩) ?rest10
  case hy10 => (intro w' kk ss; (try dsimp only at ss); go_simp; first | done | with_reducible rfl)
  try simp only [Act.put, List.setIfInBounds_toArray, List.set_cons_zero, List.set_cons_succ]
  refine' Reg.wpG_take (i := 12) (oi := { dst := some 28, op := Op.extract (Operand.tmp 16) 0, type := 3, pos := "ref.go:62", after := #[{ on := 11, ground := Ground.data }], guard := none }) (v := _) [14, 15] [] rfl rfl (by kernel_rfl) (by kernel_rfl) (by kernel_rfl) (by kernel_rfl) (by kernel_rfl) (by kernel_rfl) (by kernel_rfl) (fun _ _ _ h => h) (Or.inl ⟨by rfl, Or.inl ?hy11⟩) ?rest11
  case hy11 => (intro w' kk ss; (try dsimp only at ss); go_simp; first | done | with_reducible rfl)
  try simp only [Act.put, List.setIfInBounds_toArray, List.set_cons_zero, List.set_cons_succ]
  refine' Reg.wpG_take (i := 13) (oi := { dst := some 29, op := Op.extract (Operand.tmp 16) 1, type := 3, pos := "ref.go:62", after := #[{ on := 11, ground := Ground.data }, { on := 14, ground := Ground.gcOnly Departure.lateStores }], guard := none }) (v := _) [15] [] rfl rfl (by kernel_rfl) (by kernel_rfl) (by kernel_rfl) (by kernel_rfl) (by kernel_rfl) (by kernel_rfl) (by kernel_rfl) (fun _ _ _ h => h) (Or.inl ⟨by rfl, Or.inl ?hy12⟩) ?rest12
  case hy12 => (intro w' kk ss; (try dsimp only at ss); go_simp; first | done | with_reducible rfl)
  try simp only [Act.put, List.setIfInBounds_toArray, List.set_cons_zero, List.set_cons_succ]
  refine' Reg.wpG_take (i := 14) (oi := { dst := some 6, op := Op.assign (Operand.tmp 28), type := 3, pos := "ref.go:62", after := #[{ on := 12, ground := Ground.data }, { on := 10, ground := Ground.chain }, { on := 0, ground := Ground.phase }, { on := 1, ground := Ground.phase }, { on := 2, ground := Ground.phase }, { on := 3, ground := Ground.phase }, { on := 4, ground := Ground.phase }, { on := 5, ground := Ground.phase }, { on := 6, ground := Ground.phase }, { on := 7, ground := Ground.phase }, { on := 8, ground := Ground.phase }, { on := 9, ground := Ground.phase }, { on := 10, ground := Ground.phase }, { on := 11, ground := Ground.phase }, { on := 12, ground := Ground.phase }, { on := 13, ground := Ground.textOnly Departure.lateStores }], guard := none }) (v := _) [15] [] rfl rfl (by kernel_rfl) (by kernel_rfl) (by kernel_rfl) (by kernel_rfl) (by kernel_rfl) (by kernel_rfl) (by kernel_rfl) (fun _ _ _ h => h) (Or.inl ⟨by rfl, Or.inl ?hy13⟩) ?rest13
  case hy13 => (intro w' kk ss; (try dsimp only at ss); go_simp; first | done | with_reducible rfl)
  try simp only [Act.put, List.setIfInBounds_toArray, List.set_cons_zero, List.set_cons_succ]
  refine' Reg.wpG_take (i := 15) (oi := { dst := some 7, op := Op.assign (Operand.tmp 29), type := 3, pos := "ref.go:62", after := #[{ on := 13, ground := Ground.data }, { on := 14, ground := Ground.chain }, { on := 0, ground := Ground.phase }, { on := 1, ground := Ground.phase }, { on := 2, ground := Ground.phase }, { on := 3, ground := Ground.phase }, { on := 4, ground := Ground.phase }, { on := 5, ground := Ground.phase }, { on := 6, ground := Ground.phase }, { on := 7, ground := Ground.phase }, { on := 8, ground := Ground.phase }, { on := 9, ground := Ground.phase }, { on := 10, ground := Ground.phase }, { on := 11, ground := Ground.phase }, { on := 12, ground := Ground.phase }, { on := 13, ground := Ground.phase }, { on := 14, ground := Ground.phase }], guard := none }) (v := _) [] [] rfl rfl (by kernel_rfl) (by kernel_rfl) (by kernel_rfl) (by kernel_rfl) (by kernel_rfl) (by kernel_rfl) (by kernel_rfl) (fun _ _ _ h => h) (Or.inl ⟨by rfl, Or.inl ?hy14⟩) ?rest14
  case hy14 => (intro w' kk ss; (try dsimp only at ss); go_simp; first | done | with_reducible rfl)
  try simp only [Act.put, List.setIfInBounds_toArray, List.set_cons_zero, List.set_cons_succ]
  refine Reg.wpG_done (by kernel_rfl) (fun we ke se => ?_) _
  refine NoPanic.normal ?_
  have hr0 := hr0.trans ke
  have rx := rx.since ke
  have ry := ry.since ke
  clear ke
  go_wp2_with fail
  refine bodyPost_ret (v := .tuple #[.int .i64 (cmpI z1 z2), .int .i64 0]) ?_ rfl ?_
  · simp [results, Tryz.results17, go_sem]
  · rw [FN.out]; exact ⟨rfl, hS0.trans (hB.trans hr0)⟩
end Go.Proofs.YtbbemgeinlehmaaGreatDoor.Ref04
