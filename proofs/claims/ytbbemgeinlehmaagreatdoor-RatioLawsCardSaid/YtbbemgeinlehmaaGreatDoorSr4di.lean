/- What Div of package ratio gives back. -/
import Derived.Test.YtbbemgeinlehmaaGreatDoorTa
import Derived.Test.YtbbemgeinlehmaaGreatDoorRg
import Derived.Deep.DeepCutAuto
namespace Go.Proofs.YtbbemgeinlehmaaGreatDoor.Sr04
open Go.RowKit
set_option linter.unusedVariables false
open Go.Proofs.YtbbemgeinlehmaaGreatDoor.Dig Go.Proofs.YtbbemgeinlehmaaGreatDoor.R4 Go.Proofs.YtbbemgeinlehmaaGreatDoor.Fr
open Go.Proofs.YtbbemgeinlehmaaGreatDoor.Ref03 (sv srightB gcdZ divZ negZ mulZ addZ cmpZ textZ sval ngB mag RetZ RetQR RetS)
set_option linter.unusedSimpArgs false
open Go.Proofs.YtbbemgeinlehmaaGreatDoor.Ref04

set_option maxRecDepth 100000 in
set_option maxHeartbeats 4000000 in
theorem div_any (A0 A1 A2 A3 : Option Addr) (c0 c1 c2 c3 : Nat) (na nb nc nd : Bool) (xs ys us vs : List Nat) (w : World) (hx : Row w (.slice A0 xs.length c0) xs) (hy : Row w (.slice A1 ys.length c1) ys) (hu : Row w (.slice A2 us.length c2) us) (hv : Row w (.slice A3 vs.length c3) vs) (lx : xs.length ≤ 1000) (ly : ys.length ≤ 1000) (lu : us.length ≤ 1000) (lv : vs.length ≤ 1000) :
    Calls Tryz.prog 22 #[.agg #[.bool na, .slice A0 xs.length c0, .bool nb, .slice A1 ys.length c1], .agg #[.bool nc, .slice A2 us.length c2, .bool nd, .slice A3 vs.length c3]] w (RetF (divR ((na, xs), (nb, ys)) ((nc, us), (nd, vs))) w) := by
  have H := Lib.hid (And.intro hx (And.intro hy (And.intro hu hv)))
  have LL := Lib.hid (And.intro lx (And.intro ly (And.intro lu lv)))
  clear hx hy hu hv lx ly lu lv
  obtain ⟨W0, hW0⟩ : ∃ W0, W0 = ((w.alloc (.cells #[.bool na, .slice A0 xs.length c0, .bool nb, .slice A1 ys.length c1] 31)).alloc (.cells #[.bool nc, .slice A2 us.length c2, .bool nd, .slice A3 vs.length c3] 31)).alloc (.cells #[.bool false, .slice none 0 0, .bool false, .slice none 0 0] 31) := ⟨_, rfl⟩
  have HW := Lib.hid hW0
  have hS0 : Since w W0 := by rw [hW0]; exact (((Since.refl w).alloc _).alloc _).alloc _
  have hbx : Hid (∀ W : World, Since W0 W → Bx W (w.heap.size) #[.bool na, .slice A0 xs.length c0, .bool nb, .slice A1 ys.length c1] 31 ∧ Bx W (w.heap.size + 1) #[.bool nc, .slice A2 us.length c2, .bool nd, .slice A3 vs.length c3] 31 ∧ Bx W (w.heap.size + 1 + 1) #[.bool false, .slice none 0 0, .bool false, .slice none 0 0] 31) := fun W h => ⟨Bx.new ((since_alloc _ _).trans ((since_alloc _ _).trans (hW0 ▸ h))) (by simp), Bx.new ((since_alloc _ _).trans (hW0 ▸ h)) (by simp), Bx.new (hW0 ▸ h) (by simp)⟩
  clear hW0
  have hK := Since.refl W0
  by_cases ra : rrB ((na, xs), (nb, ys)) = true
  rotate_left
  · have FN := Lib.hid (show divR ((na, xs), (nb, ys)) ((nc, us), (nd, vs)) = (nilF, 2) from if_neg (fun h => ra h.1.1))
    have RA := Lib.hid (show rrB ((na, xs), (nb, ys)) = false by simpa using ra)
    clear ra
    go_enter Tryz.func22, Tryz.ntmps22
    go_wp2_with fail
    rw [← HW.out]
    obtain ⟨B0, B1, B2⟩ := hbx.out _ hK; obtain ⟨k0a, k0b, k0c, k0d⟩ := B0.four; obtain ⟨k1a, k1b, k1c, k1d⟩ := B1.four; obtain ⟨r0a, r0b, r0c, r0d⟩ := B2.four; obtain ⟨f0a, f0b, f0c, f0d⟩ := B2.four'
    go_wp2_with (first
      | (go_at_call 35; (with_reducible refine (right_any A0 A1 c0 c1 na nb xs ys _ (H.out.1.since (hS0.trans hK)) (H.out.2.1.since (hS0.trans hK)) (by have := LL.out; omega) (by have := LL.out; omega)).mono ?_); rw [RA.out]; rintro e w1 ⟨rfl, h⟩; have hK := hK.trans h; obtain ⟨B0, B1, B2⟩ := hbx.out _ hK; obtain ⟨k0a, k0b, k0c, k0d⟩ := B0.four; obtain ⟨k1a, k1b, k1c, k1d⟩ := B1.four; obtain ⟨r0a, r0b, r0c, r0d⟩ := B2.four; obtain ⟨f0a, f0b, f0c, f0d⟩ := B2.four'))
    have gr := (hbx.out _ hK).2.2
    obtain ⟨r0a, r0b, r0c, r0d⟩ := gr.four
    obtain ⟨f0a, f0b, f0c, f0d⟩ := gr.four'
    refine bodyPost_ret (v := (.tuple #[.agg #[.bool false, .slice none 0 0, .bool false, .slice none 0 0], .int .i64 2])) ?_ rfl ?_
    · simp [results, Tryz.results22, go_sem, r0a, r0b, r0c, r0d]
    · rw [FN.out]; exact ⟨_, _, _, _, rfl, gr.rowsR (Row.nil _) (put4_far _ _ _ _ _ _), gr.rowsR (Row.nil _) (put4_far _ _ _ _ _ _), since_put4 (hS0.trans hK) (by omega) _ _ _ _⟩
  have RA := Lib.hid ra
  by_cases rb : rrB ((nc, us), (nd, vs)) = true
  rotate_left
  · have FN := Lib.hid (show divR ((na, xs), (nb, ys)) ((nc, us), (nd, vs)) = (nilF, 2) from if_neg (fun h => rb h.1.2))
    have RB := Lib.hid (show rrB ((nc, us), (nd, vs)) = false by simpa using rb)
    clear ra rb
    go_enter Tryz.func22, Tryz.ntmps22
    go_wp2_with fail
    rw [← HW.out]
    obtain ⟨B0, B1, B2⟩ := hbx.out _ hK; obtain ⟨k0a, k0b, k0c, k0d⟩ := B0.four; obtain ⟨k1a, k1b, k1c, k1d⟩ := B1.four; obtain ⟨r0a, r0b, r0c, r0d⟩ := B2.four; obtain ⟨f0a, f0b, f0c, f0d⟩ := B2.four'
    go_wp2_with (first
      | (go_at_call 35; (with_reducible refine (right_any A0 A1 c0 c1 na nb xs ys _ (H.out.1.since (hS0.trans hK)) (H.out.2.1.since (hS0.trans hK)) (by have := LL.out; omega) (by have := LL.out; omega)).mono ?_); rw [RA.out]; rintro e w1 ⟨rfl, h⟩; have hK := hK.trans h; obtain ⟨B0, B1, B2⟩ := hbx.out _ hK; obtain ⟨k0a, k0b, k0c, k0d⟩ := B0.four; obtain ⟨k1a, k1b, k1c, k1d⟩ := B1.four; obtain ⟨r0a, r0b, r0c, r0d⟩ := B2.four; obtain ⟨f0a, f0b, f0c, f0d⟩ := B2.four')
      | (go_at_call 35; (with_reducible refine (right_any A2 A3 c2 c3 nc nd us vs _ (H.out.2.2.1.since (hS0.trans hK)) (H.out.2.2.2.since (hS0.trans hK)) (by have := LL.out; omega) (by have := LL.out; omega)).mono ?_); rw [RB.out]; rintro e w2 ⟨rfl, h⟩; have hK := hK.trans h; obtain ⟨B0, B1, B2⟩ := hbx.out _ hK; obtain ⟨k0a, k0b, k0c, k0d⟩ := B0.four; obtain ⟨k1a, k1b, k1c, k1d⟩ := B1.four; obtain ⟨r0a, r0b, r0c, r0d⟩ := B2.four; obtain ⟨f0a, f0b, f0c, f0d⟩ := B2.four'))
    have gr := (hbx.out _ hK).2.2
    obtain ⟨r0a, r0b, r0c, r0d⟩ := gr.four
    obtain ⟨f0a, f0b, f0c, f0d⟩ := gr.four'
    refine bodyPost_ret (v := (.tuple #[.agg #[.bool false, .slice none 0 0, .bool false, .slice none 0 0], .int .i64 2])) ?_ rfl ?_
    · simp [results, Tryz.results22, go_sem, r0a, r0b, r0c, r0d]
    · rw [FN.out]; exact ⟨_, _, _, _, rfl, gr.rowsR (Row.nil _) (put4_far _ _ _ _ _ _), gr.rowsR (Row.nil _) (put4_far _ _ _ _ _ _), since_put4 (hS0.trans hK) (by omega) _ _ _ _⟩
  have RB := Lib.hid rb
  by_cases h0 : us.length = 0
  · have FN := Lib.hid (show divR ((na, xs), (nb, ys)) ((nc, us), (nd, vs)) = (nilF, 2) from if_neg (fun h => h.2 h0))
    have Z0 := Lib.hid (decide_eq_true h0)
    clear ra rb h0
    go_enter Tryz.func22, Tryz.ntmps22
    go_wp2_with fail
    rw [← HW.out]
    obtain ⟨B0, B1, B2⟩ := hbx.out _ hK; obtain ⟨k0a, k0b, k0c, k0d⟩ := B0.four; obtain ⟨k1a, k1b, k1c, k1d⟩ := B1.four; obtain ⟨r0a, r0b, r0c, r0d⟩ := B2.four; obtain ⟨f0a, f0b, f0c, f0d⟩ := B2.four'
    go_wp2_with (first
      | (go_at_call 35; (with_reducible refine (right_any A0 A1 c0 c1 na nb xs ys _ (H.out.1.since (hS0.trans hK)) (H.out.2.1.since (hS0.trans hK)) (by have := LL.out; omega) (by have := LL.out; omega)).mono ?_); rw [RA.out]; rintro e w1 ⟨rfl, h⟩; have hK := hK.trans h; obtain ⟨B0, B1, B2⟩ := hbx.out _ hK; obtain ⟨k0a, k0b, k0c, k0d⟩ := B0.four; obtain ⟨k1a, k1b, k1c, k1d⟩ := B1.four; obtain ⟨r0a, r0b, r0c, r0d⟩ := B2.four; obtain ⟨f0a, f0b, f0c, f0d⟩ := B2.four')
      | (go_at_call 35; (with_reducible refine (right_any A2 A3 c2 c3 nc nd us vs _ (H.out.2.2.1.since (hS0.trans hK)) (H.out.2.2.2.since (hS0.trans hK)) (by have := LL.out; omega) (by have := LL.out; omega)).mono ?_); rw [RB.out]; rintro e w2 ⟨rfl, h⟩; have hK := hK.trans h; obtain ⟨B0, B1, B2⟩ := hbx.out _ hK; obtain ⟨k0a, k0b, k0c, k0d⟩ := B0.four; obtain ⟨k1a, k1b, k1c, k1d⟩ := B1.four; obtain ⟨r0a, r0b, r0c, r0d⟩ := B2.four; obtain ⟨f0a, f0b, f0c, f0d⟩ := B2.four')
      | (go_at_call 52; (with_reducible refine (zero_any A2 us.length c2 nc _).mono ?_); rw [Z0.out]; rintro e w3 ⟨rfl, h⟩; have hK := hK.trans h; obtain ⟨B0, B1, B2⟩ := hbx.out _ hK; obtain ⟨k0a, k0b, k0c, k0d⟩ := B0.four; obtain ⟨k1a, k1b, k1c, k1d⟩ := B1.four; obtain ⟨r0a, r0b, r0c, r0d⟩ := B2.four; obtain ⟨f0a, f0b, f0c, f0d⟩ := B2.four'))
    have gr := (hbx.out _ hK).2.2
    obtain ⟨r0a, r0b, r0c, r0d⟩ := gr.four
    obtain ⟨f0a, f0b, f0c, f0d⟩ := gr.four'
    refine bodyPost_ret (v := (.tuple #[.agg #[.bool false, .slice none 0 0, .bool false, .slice none 0 0], .int .i64 2])) ?_ rfl ?_
    · simp [results, Tryz.results22, go_sem, r0a, r0b, r0c, r0d]
    · rw [FN.out]; exact ⟨_, _, _, _, rfl, gr.rowsR (Row.nil _) (put4_far _ _ _ _ _ _), gr.rowsR (Row.nil _) (put4_far _ _ _ _ _ _), since_put4 (hS0.trans hK) (by omega) _ _ _ _⟩
  have Z0 := Lib.hid (decide_eq_false h0)
  have FA := Lib.hid (facts H.out.1.dig H.out.2.1.dig H.out.2.2.1.dig H.out.2.2.2.dig ra rb)
  obtain ⟨z4, ez4⟩ : ∃ z : Int, sval na xs * sval nd vs = z := ⟨_, rfl⟩
  have Ez4 := Lib.hid (show (_ ∧ _) ∧ _ = _ from ⟨⟨FA.out.w1, FA.out.w4⟩, ez4⟩)
  have Lz4 := Lib.hid (show (mag z4).length ≤ 130 by rw [← ez4]; exact FA.out.l1)
  obtain ⟨z3, ez3⟩ : ∃ z : Int, sval nb ys * sval nc us = z := ⟨_, rfl⟩
  have Ez3 := Lib.hid (show (_ ∧ _) ∧ _ = _ from ⟨⟨FA.out.w2, FA.out.w3⟩, ez3⟩)
  have Lz3 := Lib.hid (show (mag z3).length ≤ 130 by rw [← ez3, Int.mul_comm]; exact FA.out.l2)
  have hd : z3 ≠ 0 := by rw [← ez3]; exact ne_mul (sval_ne FA.out.w2 FA.out.z2) (sval_ne FA.out.w3 h0)
  obtain ⟨gs, p, M⟩ := low_nums (na := ngB z4) (xs := mag z4) (nb := ngB z3) (ys := mag z3) (isDig_digs _) (isDig_digs _) (Bk.right_mag (by have := Lz4.out; omega)) (Bk.right_mag (by have := Lz3.out; omega)) (mag_ne hd)
  have M := Lib.hid M
  obtain ⟨n1, s1, n2, s2, er, hr⟩ := parts5 (fitF (Fr.red (sval (ngB z4) (mag z4)) (sval (ngB z3) (mag z3))))
  have FN := Lib.hid (show divR ((na, xs), (nb, ys)) ((nc, us), (nd, vs)) = (((n1, s1), (n2, s2)), er) by rw [← hr, Bk.sval_mag, Bk.sval_mag, ← ez4, ← ez3]; exact if_pos ⟨⟨ra, rb⟩, h0⟩)
  have hr := Lib.hid hr
  clear ra rb ez3 ez4 h0 hd
  go_enter Tryz.func22, Tryz.ntmps22
  go_wp2_with fail
  rw [← HW.out]
  obtain ⟨B0, B1, B2⟩ := hbx.out _ hK; obtain ⟨k0a, k0b, k0c, k0d⟩ := B0.four; obtain ⟨k1a, k1b, k1c, k1d⟩ := B1.four; obtain ⟨r0a, r0b, r0c, r0d⟩ := B2.four; obtain ⟨f0a, f0b, f0c, f0d⟩ := B2.four'
  go_upto_region 3 with (first
    | (go_at_call 35; (with_reducible refine (right_any A0 A1 c0 c1 na nb xs ys _ (H.out.1.since (hS0.trans hK)) (H.out.2.1.since (hS0.trans hK)) (by have := LL.out; omega) (by have := LL.out; omega)).mono ?_); rw [RA.out]; rintro e w1 ⟨rfl, h⟩; have hK := hK.trans h; obtain ⟨B0, B1, B2⟩ := hbx.out _ hK; obtain ⟨k0a, k0b, k0c, k0d⟩ := B0.four; obtain ⟨k1a, k1b, k1c, k1d⟩ := B1.four; obtain ⟨r0a, r0b, r0c, r0d⟩ := B2.four; obtain ⟨f0a, f0b, f0c, f0d⟩ := B2.four')
    | (go_at_call 35; (with_reducible refine (right_any A2 A3 c2 c3 nc nd us vs _ (H.out.2.2.1.since (hS0.trans hK)) (H.out.2.2.2.since (hS0.trans hK)) (by have := LL.out; omega) (by have := LL.out; omega)).mono ?_); rw [RB.out]; rintro e w2 ⟨rfl, h⟩; have hK := hK.trans h; obtain ⟨B0, B1, B2⟩ := hbx.out _ hK; obtain ⟨k0a, k0b, k0c, k0d⟩ := B0.four; obtain ⟨k1a, k1b, k1c, k1d⟩ := B1.four; obtain ⟨r0a, r0b, r0c, r0d⟩ := B2.four; obtain ⟨f0a, f0b, f0c, f0d⟩ := B2.four')
    | (go_at_call 52; (with_reducible refine (zero_any A2 us.length c2 nc _).mono ?_); rw [Z0.out]; rintro e w3 ⟨rfl, h⟩; have hK := hK.trans h; obtain ⟨B0, B1, B2⟩ := hbx.out _ hK; obtain ⟨k0a, k0b, k0c, k0d⟩ := B0.four; obtain ⟨k1a, k1b, k1c, k1d⟩ := B1.four; obtain ⟨r0a, r0b, r0c, r0d⟩ := B2.four; obtain ⟨f0a, f0b, f0c, f0d⟩ := B2.four'))
  have hB := hK
  have hall : Hid (∀ W : World, Since w3 W → W.cell? ⟨w.heap.size, 0, none⟩ = some (.bool na) ∧ W.cell? ⟨w.heap.size, 1, none⟩ = some (.slice A0 xs.length c0) ∧ W.cell? ⟨w.heap.size, 2, none⟩ = some (.bool nb) ∧ W.cell? ⟨w.heap.size, 3, none⟩ = some (.slice A1 ys.length c1) ∧ W.cell? ⟨w.heap.size + 1, 0, none⟩ = some (.bool nc) ∧ W.cell? ⟨w.heap.size + 1, 1, none⟩ = some (.slice A2 us.length c2) ∧ W.cell? ⟨w.heap.size + 1, 2, none⟩ = some (.bool nd) ∧ W.cell? ⟨w.heap.size + 1, 3, none⟩ = some (.slice A3 vs.length c3)) := fun W h => by
    obtain ⟨B0, B1, B2⟩ := hbx.out _ (hB.trans h)
    obtain ⟨k0a, k0b, k0c, k0d⟩ := B0.four
    obtain ⟨k1a, k1b, k1c, k1d⟩ := B1.four
    exact ⟨k0a, k0b, k0c, k0d, k1a, k1b, k1c, k1d⟩
  have hr0 : Since w3 w3.drew := Since.drew (Since.refl w3)
  refine wp_region_noPanic ?_
  refine Reg.wp_region_G (S := fun W => W.cell? ⟨w.heap.size, 0, none⟩ = some (.bool na) ∧ W.cell? ⟨w.heap.size, 1, none⟩ = some (.slice A0 xs.length c0) ∧ W.cell? ⟨w.heap.size, 2, none⟩ = some (.bool nb) ∧ W.cell? ⟨w.heap.size, 3, none⟩ = some (.slice A1 ys.length c1) ∧ W.cell? ⟨w.heap.size + 1, 0, none⟩ = some (.bool nc) ∧ W.cell? ⟨w.heap.size + 1, 1, none⟩ = some (.slice A2 us.length c2) ∧ W.cell? ⟨w.heap.size + 1, 2, none⟩ = some (.bool nd) ∧ W.cell? ⟨w.heap.size + 1, 3, none⟩ = some (.slice A3 vs.length c3)) (fun j => [13, 14].contains j) (by kernel_rfl) ?_ ?_
  · exact hall.out _ hr0
  refine' Reg.wpG_take (i := 0) (oi := { dst := some 20, op := Op.fieldAddr 31 (Operand.tmp 2) 0, type := 0, pos := "ratio.go:126", after := #[], guard := none }) (v := _) [1, 4, 9, 10, 11, 12, 13, 14] [13, 14] rfl rfl (by kernel_rfl) (by kernel_rfl) (by kernel_rfl) (by kernel_rfl) (by kernel_rfl) (by kernel_rfl) (by kernel_rfl) (fun _ _ _ h => h) (Or.inl ⟨by rfl, Or.inl ?hy27⟩) ?rest27
  case hy27 => (intro w' kk ss; (try dsimp only at ss); go_simp; first | done | with_reducible rfl)
  try simp only [Act.put, List.setIfInBounds_toArray, List.set_cons_zero, List.set_cons_succ]
  refine' Reg.wpG_take (i := 1) (oi := { dst := some 21, op := Op.load 29 (Operand.tmp 20), type := 29, pos := "ratio.go:126", after := #[{ on := 0, ground := Ground.data }], guard := none }) (v := _) [4, 9, 10, 11, 12, 13, 14] [13, 14] rfl rfl (by kernel_rfl) (by kernel_rfl) (by kernel_rfl) (by kernel_rfl) (by kernel_rfl) (by kernel_rfl) (by kernel_rfl) (fun _ _ _ h => h) (Or.inl ⟨by rfl, Or.inl ?hy28⟩) ?rest28
  case hy28 => (intro w' kk ss; (try dsimp only at ss); go_simp; first | done | with_reducible rfl)
  try simp only [Act.put, List.setIfInBounds_toArray, List.set_cons_zero, List.set_cons_succ]
  refine' Reg.wpG_take (i := 2) (oi := { dst := some 22, op := Op.fieldAddr 31 (Operand.tmp 3) 1, type := 0, pos := "ratio.go:126", after := #[], guard := none }) (v := _) [3, 4, 9, 10, 11, 12, 13, 14] [13, 14] rfl rfl (by kernel_rfl) (by kernel_rfl) (by kernel_rfl) (by kernel_rfl) (by kernel_rfl) (by kernel_rfl) (by kernel_rfl) (fun _ _ _ h => h) (Or.inl ⟨by rfl, Or.inl ?hy29⟩) ?rest29
  case hy29 => (intro w' kk ss; (try dsimp only at ss); go_simp; first | done | with_reducible rfl)
  try simp only [Act.put, List.setIfInBounds_toArray, List.set_cons_zero, List.set_cons_succ]
  refine' Reg.wpG_take (i := 3) (oi := { dst := some 23, op := Op.load 29 (Operand.tmp 22), type := 29, pos := "ratio.go:126", after := #[{ on := 2, ground := Ground.data }], guard := none }) (v := _) [4, 9, 10, 11, 12, 13, 14] [13, 14] rfl rfl (by kernel_rfl) (by kernel_rfl) (by kernel_rfl) (by kernel_rfl) (by kernel_rfl) (by kernel_rfl) (by kernel_rfl) (fun _ _ _ h => h) (Or.inl ⟨by rfl, Or.inl ?hy30⟩) ?rest30
  case hy30 => (intro w' kk ss; (try dsimp only at ss); go_simp; first | done | with_reducible rfl)
  try simp only [Act.put, List.setIfInBounds_toArray, List.set_cons_zero, List.set_cons_succ]
  refine' Reg.wpG_take (i := 5) (oi := { dst := some 25, op := Op.fieldAddr 31 (Operand.tmp 2) 1, type := 0, pos := "ratio.go:126", after := #[], guard := none }) (v := _) [6, 9, 10, 11, 12, 13, 14] [13, 14] rfl rfl (by kernel_rfl) (by kernel_rfl) (by kernel_rfl) (by kernel_rfl) (by kernel_rfl) (by kernel_rfl) (by kernel_rfl) (fun _ _ _ h => h) (Or.inl ⟨by rfl, Or.inl ?hy31⟩) ?rest31
  case hy31 => (intro w' kk ss; (try dsimp only at ss); go_simp; first | done | with_reducible rfl)
  try simp only [Act.put, List.setIfInBounds_toArray, List.set_cons_zero, List.set_cons_succ]
  refine' Reg.wpG_take (i := 6) (oi := { dst := some 26, op := Op.load 29 (Operand.tmp 25), type := 29, pos := "ratio.go:126", after := #[{ on := 5, ground := Ground.data }], guard := none }) (v := _) [9, 10, 11, 12, 13, 14] [13, 14] rfl rfl (by kernel_rfl) (by kernel_rfl) (by kernel_rfl) (by kernel_rfl) (by kernel_rfl) (by kernel_rfl) (by kernel_rfl) (fun _ _ _ h => h) (Or.inl ⟨by rfl, Or.inl ?hy32⟩) ?rest32
  case hy32 => (intro w' kk ss; (try dsimp only at ss); go_simp; first | done | with_reducible rfl)
  try simp only [Act.put, List.setIfInBounds_toArray, List.set_cons_zero, List.set_cons_succ]
  refine' Reg.wpG_take (i := 7) (oi := { dst := some 27, op := Op.fieldAddr 31 (Operand.tmp 3) 0, type := 0, pos := "ratio.go:126", after := #[], guard := none }) (v := _) [8, 9, 10, 11, 12, 13, 14] [13, 14] rfl rfl (by kernel_rfl) (by kernel_rfl) (by kernel_rfl) (by kernel_rfl) (by kernel_rfl) (by kernel_rfl) (by kernel_rfl) (fun _ _ _ h => h) (Or.inl ⟨by rfl, Or.inl ?hy33⟩) ?rest33
  case hy33 => (intro w' kk ss; (try dsimp only at ss); go_simp; first | done | with_reducible rfl)
  try simp only [Act.put, List.setIfInBounds_toArray, List.set_cons_zero, List.set_cons_succ]
  refine' Reg.wpG_take (i := 8) (oi := { dst := some 28, op := Op.load 29 (Operand.tmp 27), type := 29, pos := "ratio.go:126", after := #[{ on := 7, ground := Ground.data }], guard := none }) (v := _) [9, 10, 11, 12, 13, 14] [13, 14] rfl rfl (by kernel_rfl) (by kernel_rfl) (by kernel_rfl) (by kernel_rfl) (by kernel_rfl) (by kernel_rfl) (by kernel_rfl) (fun _ _ _ h => h) (Or.inl ⟨by rfl, Or.inl ?hy34⟩) ?rest34
  case hy34 => (intro w' kk ss; (try dsimp only at ss); go_simp; first | done | with_reducible rfl)
  try simp only [Act.put, List.setIfInBounds_toArray, List.set_cons_zero, List.set_cons_succ]
  refine Reg.wpG_ready (rs := [4]) (by kernel_rfl) (by simp) (fun wq26001 k26001' sq26001 => ?_)
  have hr0 := hr0.trans k26001'
  refine Reg.AllG.first (o := { dst := some 24, op := Op.call { callee := Callee.value (Operand.func 42), args := #[Operand.tmp 21, Operand.tmp 23], argTypes := #[29, 29] }, type := 29, pos := "ratio.go:126", after := #[{ on := 1, ground := Ground.data }, { on := 3, ground := Ground.data }], guard := none }) rfl (by rfl) (fun K hK => ?_) Reg.AllG.nil
  have sq := hall.out _ hr0
  go_simp
  (with_reducible refine (times_at A0 A3 c0 c3 na nd xs vs wq26001 (H.out.1.since (hS0.trans (hB.trans hr0))) (H.out.2.2.2.since (hS0.trans (hB.trans hr0))) (by have := LL.out; omega) (by have := LL.out; omega) Ez4.out (by have := Lz4.out; omega)).mono ?_)
  rintro e y26001 ⟨Z, z, rfl, rz, hx⟩
  refine hK.out _ _ ?_ hx ?_
  · exact hall.out _ (hr0.trans hx)
  clear hK K sq
  have hr0 := hr0.trans hx
  clear hx
  try simp only [Act.put, List.setIfInBounds_toArray, List.set_cons_zero, List.set_cons_succ]
  refine Reg.wpG_ready (rs := [9]) (by kernel_rfl) (by simp) (fun wq26002 k26002' sq26002 => ?_)
  have hr0 := hr0.trans k26002'
  have rz := rz.since k26002'
  refine Reg.AllG.first (o := { dst := some 29, op := Op.call { callee := Callee.value (Operand.func 42), args := #[Operand.tmp 26, Operand.tmp 28], argTypes := #[29, 29] }, type := 29, pos := "ratio.go:126", after := #[{ on := 6, ground := Ground.data }, { on := 8, ground := Ground.data }, { on := 4, ground := Ground.chain }], guard := none }) rfl (by rfl) (fun K hK => ?_) Reg.AllG.nil
  have sq := hall.out _ hr0
  go_simp
  (with_reducible refine (times_at A1 A2 c1 c2 nb nc ys us wq26002 (H.out.2.1.since (hS0.trans (hB.trans hr0))) (H.out.2.2.1.since (hS0.trans (hB.trans hr0))) (by have := LL.out; omega) (by have := LL.out; omega) Ez3.out (by have := Lz3.out; omega)).mono ?_)
  rintro e y26002 ⟨D, d', rfl, rd, hx⟩
  refine hK.out _ _ ?_ hx ?_
  · exact hall.out _ (hr0.trans hx)
  clear hK K sq
  have hr0 := hr0.trans hx
  have rz := rz.since hx
  clear hx
  try simp only [Act.put, List.setIfInBounds_toArray, List.set_cons_zero, List.set_cons_succ]
  refine Reg.wpG_ready (rs := [10]) (by kernel_rfl) (by simp) (fun wq26003 k26003' sq26003 => ?_)
  have hr0 := hr0.trans k26003'
  have rz := rz.since k26003'
  have rd := rd.since k26003'
  refine Reg.AllG.first (o := { dst := some 30, op := Op.call { callee := Callee.value (Operand.func 43), args := #[Operand.tmp 24, Operand.tmp 29], argTypes := #[29, 29] }, type := 33, pos := "ratio.go:126", after := #[{ on := 4, ground := Ground.data }, { on := 9, ground := Ground.data }, { on := 9, ground := Ground.chain }], guard := none }) rfl (by rfl) (fun K hK => ?_) Reg.AllG.nil
  have sq := hall.out _ hr0
  go_simp
  (with_reducible refine ((lowest_any Z D z d' (ngB z4) (ngB z3) (mag z4) (mag z3) wq26003 rz rd (by have := Lz4.out; omega) (by have := Lz3.out; omega) M.out).mono fun _ _ h => RetF.at hr.out h).mono ?_)
  rintro e y26003 ⟨X9, x9, Y9, y9, rfl, r9, q9, hx⟩
  refine hK.out _ _ ?_ hx ?_
  · exact hall.out _ (hr0.trans hx)
  clear hK K sq
  have hr0 := hr0.trans hx
  have rz := rz.since hx
  have rd := rd.since hx
  clear hx
  try simp only [Act.put, List.setIfInBounds_toArray, List.set_cons_zero, List.set_cons_succ]
  refine' Reg.wpG_take (i := 11) (oi := { dst := some 31, op := Op.extract (Operand.tmp 30) 0, type := 31, pos := "ratio.go:126", after := #[{ on := 10, ground := Ground.data }], guard := none }) (v := _) [13, 14] [13, 14] rfl rfl (by kernel_rfl) (by kernel_rfl) (by kernel_rfl) (by kernel_rfl) (by kernel_rfl) (by kernel_rfl) (by kernel_rfl) (fun _ _ _ h => h) (Or.inl ⟨by rfl, Or.inl ?hy35⟩) ?rest35
  case hy35 => (intro w' kk ss; (try dsimp only at ss); go_simp; first | done | with_reducible rfl)
  try simp only [Act.put, List.setIfInBounds_toArray, List.set_cons_zero, List.set_cons_succ]
  refine' Reg.wpG_take (i := 12) (oi := { dst := some 32, op := Op.extract (Operand.tmp 30) 1, type := 32, pos := "ratio.go:126", after := #[{ on := 10, ground := Ground.data }], guard := none }) (v := _) [13, 14] [13, 14] rfl rfl (by kernel_rfl) (by kernel_rfl) (by kernel_rfl) (by kernel_rfl) (by kernel_rfl) (by kernel_rfl) (by kernel_rfl) (fun _ _ _ h => h) (Or.inl ⟨by rfl, Or.inl ?hy36⟩) ?rest36
  case hy36 => (intro w' kk ss; (try dsimp only at ss); go_simp; first | done | with_reducible rfl)
  try simp only [Act.put, List.setIfInBounds_toArray, List.set_cons_zero, List.set_cons_succ]
  refine Reg.wpG_ready (rs := [13]) (by kernel_rfl) (by simp) (fun wq k26004' sq => ?_)
  have hr0 := hr0.trans k26004'
  have rz := rz.since k26004'
  have rd := rd.since k26004'
  have r9 := r9.since k26004'
  have q9 := q9.since k26004'
  refine Reg.AllG.last (o := { dst := none, op := Op.store 31 (Operand.tmp 4) (Operand.tmp 31), type := 0, pos := "ratio.go:126", after := #[{ on := 11, ground := Ground.data }, { on := 10, ground := Ground.chain }, { on := 0, ground := Ground.phase }, { on := 1, ground := Ground.phase }, { on := 2, ground := Ground.phase }, { on := 3, ground := Ground.phase }, { on := 4, ground := Ground.phase }, { on := 5, ground := Ground.phase }, { on := 6, ground := Ground.phase }, { on := 7, ground := Ground.phase }, { on := 8, ground := Ground.phase }, { on := 9, ground := Ground.phase }, { on := 10, ground := Ground.phase }, { on := 11, ground := Ground.phase }, { on := 12, ground := Ground.phase }], guard := none }) rfl (by rfl) (fun K hK => ?_) Reg.AllG.nil
  obtain ⟨B0, B1, gr⟩ := hbx.out _ (hB.trans hr0)
  obtain ⟨k0a, k0b, k0c, k0d⟩ := B0.four
  obtain ⟨k1a, k1b, k1c, k1d⟩ := B1.four
  obtain ⟨r0a, r0b, r0c, r0d⟩ := gr.four
  obtain ⟨f0a, f0b, f0c, f0d⟩ := gr.four'
  go_simp
  refine hK.out _ _ ?_ (fun hHeld => ?_)
  · refine ⟨?_, ?_, ?_, ?_, ?_, ?_, ?_, ?_⟩ <;> go_simp
  clear hK K
  try simp only [Act.put, List.setIfInBounds_toArray, List.set_cons_zero, List.set_cons_succ]
  refine' wpAnyH_take (i := 14) (oi := { dst := some 5, op := Op.assign (Operand.tmp 32), type := 32, pos := "ratio.go:126", after := #[{ on := 12, ground := Ground.data }, { on := 13, ground := Ground.chain }, { on := 0, ground := Ground.phase }, { on := 1, ground := Ground.phase }, { on := 2, ground := Ground.phase }, { on := 3, ground := Ground.phase }, { on := 4, ground := Ground.phase }, { on := 5, ground := Ground.phase }, { on := 6, ground := Ground.phase }, { on := 7, ground := Ground.phase }, { on := 8, ground := Ground.phase }, { on := 9, ground := Ground.phase }, { on := 10, ground := Ground.phase }, { on := 11, ground := Ground.phase }, { on := 12, ground := Ground.phase }, { on := 13, ground := Ground.phase }], guard := none }) (v := _) rfl (by kernel_rfl) (by kernel_rfl) (by kernel_rfl) (fun _ _ _ h => h) (Or.inl ⟨by rfl, ?hy37⟩) (by assumption) ?rest37
  case hy37 => (intro w' ss; (try dsimp only at ss); go_simp; first | done | with_reducible rfl)
  try simp only [Act.put, List.setIfInBounds_toArray, List.set_cons_zero, List.set_cons_succ]
  refine wpAnyH_done (by kernel_rfl) ?_ _
  refine NoPanic.normal ?_
  go_wp2_with fail
  refine bodyPost_ret (v := (.tuple #[.agg #[.bool n1, .slice X9 s1.length x9, .bool n2, .slice Y9 s2.length y9], .int .i64 er])) ?_ rfl ?_
  · simp [results, Tryz.results22, go_sem, r0a, r0b, r0c, r0d]
  · rw [FN.out]; exact RetF.of rfl ⟨_, _, _, _, rfl, gr.rowsR r9 (put4_far _ _ _ _ _ _), gr.rowsR q9 (put4_far _ _ _ _ _ _), since_put4 (hS0.trans (hB.trans hr0)) (by omega) _ _ _ _⟩
end Go.Proofs.YtbbemgeinlehmaaGreatDoor.Sr04
