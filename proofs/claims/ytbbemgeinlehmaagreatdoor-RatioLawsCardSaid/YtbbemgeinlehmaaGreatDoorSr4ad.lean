/- What Add of package ratio gives back. -/
import Derived.Test.YtbbemgeinlehmaaGreatDoorTa
import Derived.Test.YtbbemgeinlehmaaGreatDoorRg
import Derived.Deep.DeepCutAuto
namespace Go.Proofs.YtbbemgeinlehmaaGreatDoor.Sr04
open Go.RowKit
set_option linter.unusedVariables false
open Go.Proofs.YtbbemgeinlehmaaGreatDoor.Dig Go.Proofs.YtbbemgeinlehmaaGreatDoor.R4 Go.Proofs.YtbbemgeinlehmaaGreatDoor.Fr
open Go.Proofs.YtbbemgeinlehmaaGreatDoor.Ref03 (sv srightB gcdZ divZ negZ mulZ addZ cmpZ textZ sval ngB mag RetZ RetQR RetS)
set_option linter.unusedSimpArgs false
open Go.Proofs.YtbbemgeinlehmaaGreatDoor.Ref04

set_option maxRecDepth 100000 in
set_option maxHeartbeats 4000000 in
theorem add_any (A0 A1 A2 A3 : Option Addr) (c0 c1 c2 c3 : Nat) (na nb nc nd : Bool) (xs ys us vs : List Nat) (w : World) (hx : Row w (.slice A0 xs.length c0) xs) (hy : Row w (.slice A1 ys.length c1) ys) (hu : Row w (.slice A2 us.length c2) us) (hv : Row w (.slice A3 vs.length c3) vs) (lx : xs.length ≤ 1000) (ly : ys.length ≤ 1000) (lu : us.length ≤ 1000) (lv : vs.length ≤ 1000) :
    Calls Tryz.prog 11 #[.agg #[.bool na, .slice A0 xs.length c0, .bool nb, .slice A1 ys.length c1], .agg #[.bool nc, .slice A2 us.length c2, .bool nd, .slice A3 vs.length c3]] w (RetF (addR ((na, xs), (nb, ys)) ((nc, us), (nd, vs))) w) := by
  have H := Lib.hid (And.intro hx (And.intro hy (And.intro hu hv)))
  have LL := Lib.hid (And.intro lx (And.intro ly (And.intro lu lv)))
  clear hx hy hu hv lx ly lu lv
  obtain ⟨W0, hW0⟩ : ∃ W0, W0 = ((w.alloc (.cells #[.bool na, .slice A0 xs.length c0, .bool nb, .slice A1 ys.length c1] 31)).alloc (.cells #[.bool nc, .slice A2 us.length c2, .bool nd, .slice A3 vs.length c3] 31)).alloc (.cells #[.bool false, .slice none 0 0, .bool false, .slice none 0 0] 31) := ⟨_, rfl⟩
  have HW := Lib.hid hW0
  have hS0 : Since w W0 := by rw [hW0]; exact (((Since.refl w).alloc _).alloc _).alloc _
  have hbx : Hid (∀ W : World, Since W0 W → Bx W (w.heap.size) #[.bool na, .slice A0 xs.length c0, .bool nb, .slice A1 ys.length c1] 31 ∧ Bx W (w.heap.size + 1) #[.bool nc, .slice A2 us.length c2, .bool nd, .slice A3 vs.length c3] 31 ∧ Bx W (w.heap.size + 1 + 1) #[.bool false, .slice none 0 0, .bool false, .slice none 0 0] 31) := fun W h => ⟨Bx.new ((since_alloc _ _).trans ((since_alloc _ _).trans (hW0 ▸ h))) (by simp), Bx.new ((since_alloc _ _).trans (hW0 ▸ h)) (by simp), Bx.new (hW0 ▸ h) (by simp)⟩
  clear hW0
  have hK := Since.refl W0
  by_cases ra : rrB ((na, xs), (nb, ys)) = true
  rotate_left
  · have FN := Lib.hid (show addR ((na, xs), (nb, ys)) ((nc, us), (nd, vs)) = (nilF, 2) from if_neg (fun h => ra h.1))
    have RA := Lib.hid (show rrB ((na, xs), (nb, ys)) = false by simpa using ra)
    clear ra
    go_enter Tryz.func11, Tryz.ntmps11
    go_wp2_with fail
    rw [← HW.out]
    obtain ⟨B0, B1, B2⟩ := hbx.out _ hK; obtain ⟨k0a, k0b, k0c, k0d⟩ := B0.four; obtain ⟨k1a, k1b, k1c, k1d⟩ := B1.four; obtain ⟨r0a, r0b, r0c, r0d⟩ := B2.four; obtain ⟨f0a, f0b, f0c, f0d⟩ := B2.four'
    go_wp2_with (first
      | (go_at_call 35; (with_reducible refine (right_any A0 A1 c0 c1 na nb xs ys _ (H.out.1.since (hS0.trans hK)) (H.out.2.1.since (hS0.trans hK)) (by have := LL.out; omega) (by have := LL.out; omega)).mono ?_); rw [RA.out]; rintro e w1 ⟨rfl, h⟩; have hK := hK.trans h; obtain ⟨B0, B1, B2⟩ := hbx.out _ hK; obtain ⟨k0a, k0b, k0c, k0d⟩ := B0.four; obtain ⟨k1a, k1b, k1c, k1d⟩ := B1.four; obtain ⟨r0a, r0b, r0c, r0d⟩ := B2.four; obtain ⟨f0a, f0b, f0c, f0d⟩ := B2.four'))
    have gr := (hbx.out _ hK).2.2
    obtain ⟨r0a, r0b, r0c, r0d⟩ := gr.four
    obtain ⟨f0a, f0b, f0c, f0d⟩ := gr.four'
    refine bodyPost_ret (v := (.tuple #[.agg #[.bool false, .slice none 0 0, .bool false, .slice none 0 0], .int .i64 2])) ?_ rfl ?_
    · simp [results, Tryz.results11, go_sem, r0a, r0b, r0c, r0d]
    · rw [FN.out]; exact ⟨_, _, _, _, rfl, gr.rowsR (Row.nil _) (put4_far _ _ _ _ _ _), gr.rowsR (Row.nil _) (put4_far _ _ _ _ _ _), since_put4 (hS0.trans hK) (by omega) _ _ _ _⟩
  have RA := Lib.hid ra
  by_cases rb : rrB ((nc, us), (nd, vs)) = true
  rotate_left
  · have FN := Lib.hid (show addR ((na, xs), (nb, ys)) ((nc, us), (nd, vs)) = (nilF, 2) from if_neg (fun h => rb h.2))
    have RB := Lib.hid (show rrB ((nc, us), (nd, vs)) = false by simpa using rb)
    clear ra rb
    go_enter Tryz.func11, Tryz.ntmps11
    go_wp2_with fail
    rw [← HW.out]
    obtain ⟨B0, B1, B2⟩ := hbx.out _ hK; obtain ⟨k0a, k0b, k0c, k0d⟩ := B0.four; obtain ⟨k1a, k1b, k1c, k1d⟩ := B1.four; obtain ⟨r0a, r0b, r0c, r0d⟩ := B2.four; obtain ⟨f0a, f0b, f0c, f0d⟩ := B2.four'
    go_wp2_with (first
      | (go_at_call 35; (with_reducible refine (right_any A0 A1 c0 c1 na nb xs ys _ (H.out.1.since (hS0.trans hK)) (H.out.2.1.since (hS0.trans hK)) (by have := LL.out; omega) (by have := LL.out; omega)).mono ?_); rw [RA.out]; rintro e w1 ⟨rfl, h⟩; have hK := hK.trans h; obtain ⟨B0, B1, B2⟩ := hbx.out _ hK; obtain ⟨k0a, k0b, k0c, k0d⟩ := B0.four; obtain ⟨k1a, k1b, k1c, k1d⟩ := B1.four; obtain ⟨r0a, r0b, r0c, r0d⟩ := B2.four; obtain ⟨f0a, f0b, f0c, f0d⟩ := B2.four')
      | (go_at_call 35; (with_reducible refine (right_any A2 A3 c2 c3 nc nd us vs _ (H.out.2.2.1.since (hS0.trans hK)) (H.out.2.2.2.since (hS0.trans hK)) (by have := LL.out; omega) (by have := LL.out; omega)).mono ?_); rw [RB.out]; rintro e w2 ⟨rfl, h⟩; have hK := hK.trans h; obtain ⟨B0, B1, B2⟩ := hbx.out _ hK; obtain ⟨k0a, k0b, k0c, k0d⟩ := B0.four; obtain ⟨k1a, k1b, k1c, k1d⟩ := B1.four; obtain ⟨r0a, r0b, r0c, r0d⟩ := B2.four; obtain ⟨f0a, f0b, f0c, f0d⟩ := B2.four'))
    have gr := (hbx.out _ hK).2.2
    obtain ⟨r0a, r0b, r0c, r0d⟩ := gr.four
    obtain ⟨f0a, f0b, f0c, f0d⟩ := gr.four'
    refine bodyPost_ret (v := (.tuple #[.agg #[.bool false, .slice none 0 0, .bool false, .slice none 0 0], .int .i64 2])) ?_ rfl ?_
    · simp [results, Tryz.results11, go_sem, r0a, r0b, r0c, r0d]
    · rw [FN.out]; exact ⟨_, _, _, _, rfl, gr.rowsR (Row.nil _) (put4_far _ _ _ _ _ _), gr.rowsR (Row.nil _) (put4_far _ _ _ _ _ _), since_put4 (hS0.trans hK) (by omega) _ _ _ _⟩
  have RB := Lib.hid rb
  have FA := Lib.hid (facts H.out.1.dig H.out.2.1.dig H.out.2.2.1.dig H.out.2.2.2.dig ra rb)
  obtain ⟨z1, ez1⟩ : ∃ z : Int, sval na xs * sval nd vs = z := ⟨_, rfl⟩
  have Ez1 := Lib.hid (show (_ ∧ _) ∧ _ = _ from ⟨⟨FA.out.w1, FA.out.w4⟩, ez1⟩)
  have Lz1 := Lib.hid (show (mag z1).length ≤ 130 by rw [← ez1]; exact FA.out.l1)
  obtain ⟨z2, ez2⟩ : ∃ z : Int, sval nc us * sval nb ys = z := ⟨_, rfl⟩
  have Ez2 := Lib.hid (show (_ ∧ _) ∧ _ = _ from ⟨⟨FA.out.w3, FA.out.w2⟩, ez2⟩)
  have Lz2 := Lib.hid (show (mag z2).length ≤ 130 by rw [← ez2]; exact FA.out.l2)
  obtain ⟨z3, ez3⟩ : ∃ z : Int, sval nb ys * sval nd vs = z := ⟨_, rfl⟩
  have Ez3 := Lib.hid (show (_ ∧ _) ∧ _ = _ from ⟨⟨FA.out.w2, FA.out.w4⟩, ez3⟩)
  have Lz3 := Lib.hid (show (mag z3).length ≤ 130 by rw [← ez3]; exact FA.out.l3)
  obtain ⟨z4, ez4⟩ : ∃ z : Int, z1 + z2 = z := ⟨_, rfl⟩
  have Lz4 := Lib.hid (show (mag z4).length ≤ 131 by rw [← ez4, ← ez1, ← ez2]; exact FA.out.l5)
  have Ez4 := Lib.hid ez4
  have hd : z3 ≠ 0 := by rw [← ez3]; exact ne_mul (sval_ne FA.out.w2 FA.out.z2) (sval_ne FA.out.w4 FA.out.z4)
  obtain ⟨gs, p, M⟩ := low_nums (na := ngB z4) (xs := mag z4) (nb := ngB z3) (ys := mag z3) (isDig_digs _) (isDig_digs _) (Bk.right_mag (by have := Lz4.out; omega)) (Bk.right_mag (by have := Lz3.out; omega)) (mag_ne hd)
  have M := Lib.hid M
  obtain ⟨n1, s1, n2, s2, er, hr⟩ := parts5 (fitF (Fr.red (sval (ngB z4) (mag z4)) (sval (ngB z3) (mag z3))))
  have FN := Lib.hid (show addR ((na, xs), (nb, ys)) ((nc, us), (nd, vs)) = (((n1, s1), (n2, s2)), er) by rw [← hr, Bk.sval_mag, Bk.sval_mag, ← ez4, ← ez1, ← ez2, ← ez3]; exact if_pos ⟨ra, rb⟩)
  have hr := Lib.hid hr
  clear ra rb ez1 ez2 ez3 ez4 hd
  go_enter Tryz.func11, Tryz.ntmps11
  go_wp2_with fail
  rw [← HW.out]
  obtain ⟨B0, B1, B2⟩ := hbx.out _ hK; obtain ⟨k0a, k0b, k0c, k0d⟩ := B0.four; obtain ⟨k1a, k1b, k1c, k1d⟩ := B1.four; obtain ⟨r0a, r0b, r0c, r0d⟩ := B2.four; obtain ⟨f0a, f0b, f0c, f0d⟩ := B2.four'
  go_upto_region 3 with (first
    | (go_at_call 35; (with_reducible refine (right_any A0 A1 c0 c1 na nb xs ys _ (H.out.1.since (hS0.trans hK)) (H.out.2.1.since (hS0.trans hK)) (by have := LL.out; omega) (by have := LL.out; omega)).mono ?_); rw [RA.out]; rintro e w1 ⟨rfl, h⟩; have hK := hK.trans h; obtain ⟨B0, B1, B2⟩ := hbx.out _ hK; obtain ⟨k0a, k0b, k0c, k0d⟩ := B0.four; obtain ⟨k1a, k1b, k1c, k1d⟩ := B1.four; obtain ⟨r0a, r0b, r0c, r0d⟩ := B2.four; obtain ⟨f0a, f0b, f0c, f0d⟩ := B2.four')
    | (go_at_call 35; (with_reducible refine (right_any A2 A3 c2 c3 nc nd us vs _ (H.out.2.2.1.since (hS0.trans hK)) (H.out.2.2.2.since (hS0.trans hK)) (by have := LL.out; omega) (by have := LL.out; omega)).mono ?_); rw [RB.out]; rintro e w2 ⟨rfl, h⟩; have hK := hK.trans h; obtain ⟨B0, B1, B2⟩ := hbx.out _ hK; obtain ⟨k0a, k0b, k0c, k0d⟩ := B0.four; obtain ⟨k1a, k1b, k1c, k1d⟩ := B1.four; obtain ⟨r0a, r0b, r0c, r0d⟩ := B2.four; obtain ⟨f0a, f0b, f0c, f0d⟩ := B2.four'))
  have hB := hK
  have hall : Hid (∀ W : World, Since w2 W → W.cell? ⟨w.heap.size, 0, none⟩ = some (.bool na) ∧ W.cell? ⟨w.heap.size, 1, none⟩ = some (.slice A0 xs.length c0) ∧ W.cell? ⟨w.heap.size, 2, none⟩ = some (.bool nb) ∧ W.cell? ⟨w.heap.size, 3, none⟩ = some (.slice A1 ys.length c1) ∧ W.cell? ⟨w.heap.size + 1, 0, none⟩ = some (.bool nc) ∧ W.cell? ⟨w.heap.size + 1, 1, none⟩ = some (.slice A2 us.length c2) ∧ W.cell? ⟨w.heap.size + 1, 2, none⟩ = some (.bool nd) ∧ W.cell? ⟨w.heap.size + 1, 3, none⟩ = some (.slice A3 vs.length c3)) := fun W h => by
    obtain ⟨B0, B1, B2⟩ := hbx.out _ (hB.trans h)
    obtain ⟨k0a, k0b, k0c, k0d⟩ := B0.four
    obtain ⟨k1a, k1b, k1c, k1d⟩ := B1.four
    exact ⟨k0a, k0b, k0c, k0d, k1a, k1b, k1c, k1d⟩
  go_cut [6, 7] (fun pP pE W => ∃ (c0 : Nat) (Z : Option Addr) (z : Nat), pP = .pointer (some ⟨c0, 0, none⟩) ∧ pE = .int .i64 0 ∧ Since w2 W ∧ Bx W c0 #[.bool (ngB z4), .slice Z (mag z4).length z] 29 ∧ Row W (.slice Z (mag z4).length z) (mag z4))
  case first =>
    have hr0 : Since w2 w2.drew := Since.drew (Since.refl w2)
    refine wp_region_noPanic ?_
    refine Reg.wp_region_G (S := fun W => W.cell? ⟨w.heap.size, 0, none⟩ = some (.bool na) ∧ W.cell? ⟨w.heap.size, 1, none⟩ = some (.slice A0 xs.length c0) ∧ W.cell? ⟨w.heap.size, 2, none⟩ = some (.bool nb) ∧ W.cell? ⟨w.heap.size, 3, none⟩ = some (.slice A1 ys.length c1) ∧ W.cell? ⟨w.heap.size + 1, 0, none⟩ = some (.bool nc) ∧ W.cell? ⟨w.heap.size + 1, 1, none⟩ = some (.slice A2 us.length c2) ∧ W.cell? ⟨w.heap.size + 1, 2, none⟩ = some (.bool nd) ∧ W.cell? ⟨w.heap.size + 1, 3, none⟩ = some (.slice A3 vs.length c3)) (fun j => [10, 11, 12, 13, 15, 16].contains j) (by kernel_rfl) ?_ ?_
    · exact hall.out _ hr0
    refine' Reg.wpG_take (i := 0) (oi := { dst := some 18, op := Op.fieldAddr 31 (Operand.tmp 2) 0, type := 0, pos := "ratio.go:109", after := #[], guard := none }) (v := _) [1, 4, 9, 10, 11, 12, 13, 15, 16] [10, 11, 12, 13, 15, 16] rfl rfl (by kernel_rfl) (by kernel_rfl) (by kernel_rfl) (by kernel_rfl) (by kernel_rfl) (by kernel_rfl) (by kernel_rfl) (fun _ _ _ h => h) (Or.inl ⟨by rfl, Or.inl ?hy38⟩) ?rest38
    case hy38 => (intro w' kk ss; (try dsimp only at ss); go_simp; first | done | with_reducible rfl)
    try simp only [Act.put, List.setIfInBounds_toArray, List.set_cons_zero, List.set_cons_succ]
    refine' Reg.wpG_take (i := 1) (oi := { dst := some 19, op := Op.load 29 (Operand.tmp 18), type := 29, pos := "ratio.go:109", after := #[{ on := 0, ground := Ground.data }], guard := none }) (v := _) [4, 9, 10, 11, 12, 13, 15, 16] [10, 11, 12, 13, 15, 16] rfl rfl (by kernel_rfl) (by kernel_rfl) (by kernel_rfl) (by kernel_rfl) (by kernel_rfl) (by kernel_rfl) (by kernel_rfl) (fun _ _ _ h => h) (Or.inl ⟨by rfl, Or.inl ?hy39⟩) ?rest39
    case hy39 => (intro w' kk ss; (try dsimp only at ss); go_simp; first | done | with_reducible rfl)
    try simp only [Act.put, List.setIfInBounds_toArray, List.set_cons_zero, List.set_cons_succ]
    refine' Reg.wpG_take (i := 2) (oi := { dst := some 20, op := Op.fieldAddr 31 (Operand.tmp 3) 1, type := 0, pos := "ratio.go:109", after := #[], guard := none }) (v := _) [3, 4, 9, 10, 11, 12, 13, 15, 16] [10, 11, 12, 13, 15, 16] rfl rfl (by kernel_rfl) (by kernel_rfl) (by kernel_rfl) (by kernel_rfl) (by kernel_rfl) (by kernel_rfl) (by kernel_rfl) (fun _ _ _ h => h) (Or.inl ⟨by rfl, Or.inl ?hy40⟩) ?rest40
    case hy40 => (intro w' kk ss; (try dsimp only at ss); go_simp; first | done | with_reducible rfl)
    try simp only [Act.put, List.setIfInBounds_toArray, List.set_cons_zero, List.set_cons_succ]
    refine' Reg.wpG_take (i := 3) (oi := { dst := some 21, op := Op.load 29 (Operand.tmp 20), type := 29, pos := "ratio.go:109", after := #[{ on := 2, ground := Ground.data }], guard := none }) (v := _) [4, 9, 10, 11, 12, 13, 15, 16] [10, 11, 12, 13, 15, 16] rfl rfl (by kernel_rfl) (by kernel_rfl) (by kernel_rfl) (by kernel_rfl) (by kernel_rfl) (by kernel_rfl) (by kernel_rfl) (fun _ _ _ h => h) (Or.inl ⟨by rfl, Or.inl ?hy41⟩) ?rest41
    case hy41 => (intro w' kk ss; (try dsimp only at ss); go_simp; first | done | with_reducible rfl)
    try simp only [Act.put, List.setIfInBounds_toArray, List.set_cons_zero, List.set_cons_succ]
    refine' Reg.wpG_take (i := 5) (oi := { dst := some 23, op := Op.fieldAddr 31 (Operand.tmp 3) 0, type := 0, pos := "ratio.go:109", after := #[], guard := none }) (v := _) [6, 9, 10, 11, 12, 13, 15, 16] [10, 11, 12, 13, 15, 16] rfl rfl (by kernel_rfl) (by kernel_rfl) (by kernel_rfl) (by kernel_rfl) (by kernel_rfl) (by kernel_rfl) (by kernel_rfl) (fun _ _ _ h => h) (Or.inl ⟨by rfl, Or.inl ?hy42⟩) ?rest42
    case hy42 => (intro w' kk ss; (try dsimp only at ss); go_simp; first | done | with_reducible rfl)
    try simp only [Act.put, List.setIfInBounds_toArray, List.set_cons_zero, List.set_cons_succ]
    refine' Reg.wpG_take (i := 6) (oi := { dst := some 24, op := Op.load 29 (Operand.tmp 23), type := 29, pos := "ratio.go:109", after := #[{ on := 5, ground := Ground.data }], guard := none }) (v := _) [9, 10, 11, 12, 13, 15, 16] [10, 11, 12, 13, 15, 16] rfl rfl (by kernel_rfl) (by kernel_rfl) (by kernel_rfl) (by kernel_rfl) (by kernel_rfl) (by kernel_rfl) (by kernel_rfl) (fun _ _ _ h => h) (Or.inl ⟨by rfl, Or.inl ?hy43⟩) ?rest43
    case hy43 => (intro w' kk ss; (try dsimp only at ss); go_simp; first | done | with_reducible rfl)
    try simp only [Act.put, List.setIfInBounds_toArray, List.set_cons_zero, List.set_cons_succ]
    refine' Reg.wpG_take (i := 7) (oi := { dst := some 25, op := Op.fieldAddr 31 (Operand.tmp 2) 1, type := 0, pos := "ratio.go:109", after := #[], guard := none }) (v := _) [8, 9, 10, 11, 12, 13, 15, 16] [10, 11, 12, 13, 15, 16] rfl rfl (by kernel_rfl) (by kernel_rfl) (by kernel_rfl) (by kernel_rfl) (by kernel_rfl) (by kernel_rfl) (by kernel_rfl) (fun _ _ _ h => h) (Or.inl ⟨by rfl, Or.inl ?hy44⟩) ?rest44
    case hy44 => (intro w' kk ss; (try dsimp only at ss); go_simp; first | done | with_reducible rfl)
    try simp only [Act.put, List.setIfInBounds_toArray, List.set_cons_zero, List.set_cons_succ]
    refine' Reg.wpG_take (i := 8) (oi := { dst := some 26, op := Op.load 29 (Operand.tmp 25), type := 29, pos := "ratio.go:109", after := #[{ on := 7, ground := Ground.data }], guard := none }) (v := _) [9, 10, 11, 12, 13, 15, 16] [10, 11, 12, 13, 15, 16] rfl rfl (by kernel_rfl) (by kernel_rfl) (by kernel_rfl) (by kernel_rfl) (by kernel_rfl) (by kernel_rfl) (by kernel_rfl) (fun _ _ _ h => h) (Or.inl ⟨by rfl, Or.inl ?hy45⟩) ?rest45
    case hy45 => (intro w' kk ss; (try dsimp only at ss); go_simp; first | done | with_reducible rfl)
    try simp only [Act.put, List.setIfInBounds_toArray, List.set_cons_zero, List.set_cons_succ]
    refine Reg.wpG_ready (rs := [4, 14]) (by kernel_rfl) (by simp) (fun wq1 k1' sq1 => ?_)
    have hr0 := hr0.trans k1'
    have hb1 : w2.heap.size ≤ wq1.heap.size := hr0.size
    refine Reg.AllG.first (o := { dst := some 22, op := Op.call { callee := Callee.value (Operand.func 42), args := #[Operand.tmp 19, Operand.tmp 21], argTypes := #[29, 29] }, type := 29, pos := "ratio.go:109", after := #[{ on := 1, ground := Ground.data }, { on := 3, ground := Ground.data }], guard := none }) rfl (by rfl) (fun K hK => ?_) (Reg.AllG.first (o := { dst := some 6, op := Op.alloc 29, type := 0, pos := "ratio.go:109", after := #[], guard := none }) rfl (by rfl) (fun K hK => ?_) Reg.AllG.nil)
    · go_simp
      (with_reducible refine (times_at A0 A3 c0 c3 na nd xs vs wq1 (H.out.1.since (hS0.trans (hB.trans hr0))) (H.out.2.2.2.since (hS0.trans (hB.trans hr0))) (by have := LL.out; omega) (by have := LL.out; omega) Ez1.out (by have := Lz1.out; omega)).mono ?_)
      rintro e y1 ⟨X, x, rfl, rx, hx⟩
      refine hK.out _ _ ?_ hx ?_
      · exact hall.out _ (hr0.trans hx)
      clear hK K
      have hr0 := hr0.trans hx
      try simp only [Act.put, List.setIfInBounds_toArray, List.set_cons_zero, List.set_cons_succ]
      refine Reg.wpG_ready (rs := [9, 14]) (by kernel_rfl) (by simp) (fun wq2 k2' sq2 => ?_)
      have hr0 := hr0.trans k2'
      have hb2 : w2.heap.size ≤ wq2.heap.size := hr0.size
      have rx := rx.since k2'
      refine Reg.AllG.first (o := { dst := some 27, op := Op.call { callee := Callee.value (Operand.func 42), args := #[Operand.tmp 24, Operand.tmp 26], argTypes := #[29, 29] }, type := 29, pos := "ratio.go:109", after := #[{ on := 6, ground := Ground.data }, { on := 8, ground := Ground.data }, { on := 4, ground := Ground.chain }], guard := none }) rfl (by rfl) (fun K hK => ?_) (Reg.AllG.first (o := { dst := some 6, op := Op.alloc 29, type := 0, pos := "ratio.go:109", after := #[], guard := none }) rfl (by rfl) (fun K hK => ?_) Reg.AllG.nil)
      · go_simp
        (with_reducible refine (times_at A2 A1 c2 c1 nc nb us ys wq2 (H.out.2.2.1.since (hS0.trans (hB.trans hr0))) (H.out.2.1.since (hS0.trans (hB.trans hr0))) (by have := LL.out; omega) (by have := LL.out; omega) Ez2.out (by have := Lz2.out; omega)).mono ?_)
        rintro e y2 ⟨Y, y, rfl, ry, hx⟩
        refine hK.out _ _ ?_ hx ?_
        · exact hall.out _ (hr0.trans hx)
        clear hK K
        have hr0 := hr0.trans hx
        have rx := rx.since hx
        try simp only [Act.put, List.setIfInBounds_toArray, List.set_cons_zero, List.set_cons_succ]
        refine Reg.wpG_ready (rs := [10, 14]) (by kernel_rfl) (by simp) (fun wq3 k3' sq3 => ?_)
        have hr0 := hr0.trans k3'
        have hb3 : w2.heap.size ≤ wq3.heap.size := hr0.size
        have rx := rx.since k3'
        have ry := ry.since k3'
        refine Reg.AllG.last (o := { dst := some 28, op := Op.call { callee := Callee.value (Operand.func 41), args := #[Operand.tmp 22, Operand.tmp 27], argTypes := #[29, 29] }, type := 46, pos := "ratio.go:109", after := #[{ on := 4, ground := Ground.data }, { on := 9, ground := Ground.data }, { on := 9, ground := Ground.chain }], guard := none }) rfl (by rfl) (fun K hK => ?_) (Reg.AllG.first (o := { dst := some 6, op := Op.alloc 29, type := 0, pos := "ratio.go:109", after := #[], guard := none }) rfl (by rfl) (fun K hK => ?_) Reg.AllG.nil)
        · go_simp
          (with_reducible refine (add_at X Y x y z1 z2 wq3 rx ry (by have := Lz1.out; omega) (by have := Lz2.out; omega) Ez4.out (by have := Lz4.out; omega)).mono ?_)
          rintro e y3 ⟨Z, z, rfl, rz, hx⟩
          have hr0 := hr0.trans hx
          have rx := rx.since hx
          have ry := ry.since hx
          have hb : w2.heap.size ≤ y3.heap.size := hr0.size
          refine hK.out _ _ ?_ (fun hHeld => ?_)
          · exact hall.out _ hr0
          clear hK K
          try simp only [Act.put, List.setIfInBounds_toArray, List.set_cons_zero, List.set_cons_succ]
          refine' wpAnyH_take (i := 11) (oi := { dst := some 17, op := Op.move (Operand.tmp 28), type := 46, pos := "ratio.go:109", after := #[{ on := 10, ground := Ground.data }], guard := none }) (v := _) rfl (by kernel_rfl) (by kernel_rfl) (by kernel_rfl) (fun _ _ _ h => h) (Or.inl ⟨by rfl, ?hy46⟩) (by assumption) ?rest46
          case hy46 => (intro w' ss; (try dsimp only at ss); go_simp; first | done | with_reducible rfl)
          try simp only [Act.put, List.setIfInBounds_toArray, List.set_cons_zero, List.set_cons_succ]
          refine' wpAnyH_take (i := 12) (oi := { dst := some 29, op := Op.extract (Operand.tmp 17) 0, type := 29, pos := "ratio.go:109", after := #[{ on := 11, ground := Ground.data }], guard := none }) (v := _) rfl (by kernel_rfl) (by kernel_rfl) (by kernel_rfl) (fun _ _ _ h => h) (Or.inl ⟨by rfl, ?hy47⟩) (by assumption) ?rest47
          case hy47 => (intro w' ss; (try dsimp only at ss); go_simp; first | done | with_reducible rfl)
          try simp only [Act.put, List.setIfInBounds_toArray, List.set_cons_zero, List.set_cons_succ]
          refine' wpAnyH_take (i := 13) (oi := { dst := some 30, op := Op.extract (Operand.tmp 17) 1, type := 32, pos := "ratio.go:109", after := #[{ on := 11, ground := Ground.data }, { on := 15, ground := Ground.gcOnly Departure.lateStores }], guard := none }) (v := _) rfl (by kernel_rfl) (by kernel_rfl) (by kernel_rfl) (fun _ _ _ h => h) (Or.inl ⟨by rfl, ?hy48⟩) (by assumption) ?rest48
          case hy48 => (intro w' ss; (try dsimp only at ss); go_simp; first | done | with_reducible rfl)
          try simp only [Act.put, List.setIfInBounds_toArray, List.set_cons_zero, List.set_cons_succ]
          refine wpAnyH_ready (rs := [14]) (by kernel_rfl) (by simp) ?_
          refine AllReadyH.cons (o := { dst := some 6, op := Op.alloc 29, type := 0, pos := "ratio.go:109", after := #[], guard := none }) rfl (fun K hK => ?_) AllReadyH.nil
          · go_simp
            refine hK.out _ _ ?_ (fun hHeld => ?_)
            · exact hall.out _ (hr0.trans (since_alloc _ _))
            clear hK K
            try simp only [Act.put, List.setIfInBounds_toArray, List.set_cons_zero, List.set_cons_succ]
            have gb := Bx.fresh y3 #[.bool false, .slice none 0 0] 29
            refine wpAnyH_ready (rs := [15]) (by kernel_rfl) (by simp) ?_
            refine AllReadyH.cons (o := { dst := none, op := Op.store 29 (Operand.tmp 6) (Operand.tmp 29), type := 0, pos := "ratio.go:109", after := #[{ on := 14, ground := Ground.data }, { on := 12, ground := Ground.data }, { on := 10, ground := Ground.chain }, { on := 0, ground := Ground.phase }, { on := 1, ground := Ground.phase }, { on := 2, ground := Ground.phase }, { on := 3, ground := Ground.phase }, { on := 4, ground := Ground.phase }, { on := 5, ground := Ground.phase }, { on := 6, ground := Ground.phase }, { on := 7, ground := Ground.phase }, { on := 8, ground := Ground.phase }, { on := 9, ground := Ground.phase }, { on := 10, ground := Ground.phase }, { on := 11, ground := Ground.phase }, { on := 12, ground := Ground.phase }, { on := 13, ground := Ground.textOnly Departure.lateStores }, { on := 14, ground := Ground.phase }], guard := none }) rfl (fun K hK => ?_) AllReadyH.nil
            · obtain ⟨gza, gzb⟩ := gb.two
              obtain ⟨fza, fzb⟩ := gb.two'
              go_simp
              refine hK.out _ _ ?_ (fun hHeld => ?_)
              · exact hall.out _ (hr0.trans (since_alloc _ _))
              clear hK K
              try simp only [Act.put, List.setIfInBounds_toArray, List.set_cons_zero, List.set_cons_succ]
              refine' wpAnyH_take (i := 16) (oi := { dst := some 7, op := Op.assign (Operand.tmp 30), type := 32, pos := "ratio.go:109", after := #[{ on := 13, ground := Ground.data }, { on := 15, ground := Ground.chain }, { on := 0, ground := Ground.phase }, { on := 1, ground := Ground.phase }, { on := 2, ground := Ground.phase }, { on := 3, ground := Ground.phase }, { on := 4, ground := Ground.phase }, { on := 5, ground := Ground.phase }, { on := 6, ground := Ground.phase }, { on := 7, ground := Ground.phase }, { on := 8, ground := Ground.phase }, { on := 9, ground := Ground.phase }, { on := 10, ground := Ground.phase }, { on := 11, ground := Ground.phase }, { on := 12, ground := Ground.phase }, { on := 13, ground := Ground.phase }, { on := 14, ground := Ground.phase }, { on := 15, ground := Ground.phase }], guard := none }) (v := _) rfl (by kernel_rfl) (by kernel_rfl) (by kernel_rfl) (fun _ _ _ h => h) (Or.inl ⟨by rfl, ?hy49⟩) (by assumption) ?rest49
              case hy49 => (intro w' ss; (try dsimp only at ss); go_simp; first | done | with_reducible rfl)
              try simp only [Act.put, List.setIfInBounds_toArray, List.set_cons_zero, List.set_cons_succ]
              refine wpAnyH_done (by kernel_rfl) ?_ _
              refine NoPanic.normal ?_
              go_wp2_with fail
              go_meet
              exact ⟨_, Z, z, rfl, rfl, hr0.trans (since_alloc _ _), Bx.fresh _ _ _, rz.since (since_alloc _ _)⟩
        · go_simp
          refine hK.out _ _ ?_ (since_alloc _ _) ?_
          · exact hall.out _ (hr0.trans (since_alloc _ _))
          clear hK K
          try simp only [Act.put, List.setIfInBounds_toArray, List.set_cons_zero, List.set_cons_succ]
          have gb := Bx.fresh wq3 #[.bool false, .slice none 0 0] 29
          have hbq := hb3
          have rx := rx.since (since_alloc wq3 (.cells #[.bool false, .slice none 0 0] 29))
          have ry := ry.since (since_alloc wq3 (.cells #[.bool false, .slice none 0 0] 29))
          have hr0 := hr0.trans (since_alloc wq3 (.cells #[.bool false, .slice none 0 0] 29))
          refine Reg.wpG_ready (rs := [10]) (by kernel_rfl) (by simp) (fun wq4 k4' sq4 => ?_)
          have hr0 := hr0.trans k4'
          have hb4 : w2.heap.size ≤ wq4.heap.size := hr0.size
          have rx := rx.since k4'
          have ry := ry.since k4'
          have gb := gb.since k4'
          refine Reg.AllG.last (o := { dst := some 28, op := Op.call { callee := Callee.value (Operand.func 41), args := #[Operand.tmp 22, Operand.tmp 27], argTypes := #[29, 29] }, type := 46, pos := "ratio.go:109", after := #[{ on := 4, ground := Ground.data }, { on := 9, ground := Ground.data }, { on := 9, ground := Ground.chain }], guard := none }) rfl (by rfl) (fun K hK => ?_) Reg.AllG.nil
          · go_simp
            (with_reducible refine (add_at X Y x y z1 z2 wq4 rx ry (by have := Lz1.out; omega) (by have := Lz2.out; omega) Ez4.out (by have := Lz4.out; omega)).mono ?_)
            rintro e y4 ⟨Z, z, rfl, rz, hx⟩
            have hr0 := hr0.trans hx
            have rx := rx.since hx
            have ry := ry.since hx
            have gb := gb.since hx
            generalize wq3.heap.size = bq at *
            have hb := hbq
            refine hK.out _ _ ?_ (fun hHeld => ?_)
            · exact hall.out _ hr0
            clear hK K
            try simp only [Act.put, List.setIfInBounds_toArray, List.set_cons_zero, List.set_cons_succ]
            refine' wpAnyH_take (i := 11) (oi := { dst := some 17, op := Op.move (Operand.tmp 28), type := 46, pos := "ratio.go:109", after := #[{ on := 10, ground := Ground.data }], guard := none }) (v := _) rfl (by kernel_rfl) (by kernel_rfl) (by kernel_rfl) (fun _ _ _ h => h) (Or.inl ⟨by rfl, ?hy50⟩) (by assumption) ?rest50
            case hy50 => (intro w' ss; (try dsimp only at ss); go_simp; first | done | with_reducible rfl)
            try simp only [Act.put, List.setIfInBounds_toArray, List.set_cons_zero, List.set_cons_succ]
            refine' wpAnyH_take (i := 12) (oi := { dst := some 29, op := Op.extract (Operand.tmp 17) 0, type := 29, pos := "ratio.go:109", after := #[{ on := 11, ground := Ground.data }], guard := none }) (v := _) rfl (by kernel_rfl) (by kernel_rfl) (by kernel_rfl) (fun _ _ _ h => h) (Or.inl ⟨by rfl, ?hy51⟩) (by assumption) ?rest51
            case hy51 => (intro w' ss; (try dsimp only at ss); go_simp; first | done | with_reducible rfl)
            try simp only [Act.put, List.setIfInBounds_toArray, List.set_cons_zero, List.set_cons_succ]
            refine' wpAnyH_take (i := 13) (oi := { dst := some 30, op := Op.extract (Operand.tmp 17) 1, type := 32, pos := "ratio.go:109", after := #[{ on := 11, ground := Ground.data }, { on := 15, ground := Ground.gcOnly Departure.lateStores }], guard := none }) (v := _) rfl (by kernel_rfl) (by kernel_rfl) (by kernel_rfl) (fun _ _ _ h => h) (Or.inl ⟨by rfl, ?hy52⟩) (by assumption) ?rest52
            case hy52 => (intro w' ss; (try dsimp only at ss); go_simp; first | done | with_reducible rfl)
            try simp only [Act.put, List.setIfInBounds_toArray, List.set_cons_zero, List.set_cons_succ]
            refine wpAnyH_ready (rs := [15]) (by kernel_rfl) (by simp) ?_
            refine AllReadyH.cons (o := { dst := none, op := Op.store 29 (Operand.tmp 6) (Operand.tmp 29), type := 0, pos := "ratio.go:109", after := #[{ on := 14, ground := Ground.data }, { on := 12, ground := Ground.data }, { on := 10, ground := Ground.chain }, { on := 0, ground := Ground.phase }, { on := 1, ground := Ground.phase }, { on := 2, ground := Ground.phase }, { on := 3, ground := Ground.phase }, { on := 4, ground := Ground.phase }, { on := 5, ground := Ground.phase }, { on := 6, ground := Ground.phase }, { on := 7, ground := Ground.phase }, { on := 8, ground := Ground.phase }, { on := 9, ground := Ground.phase }, { on := 10, ground := Ground.phase }, { on := 11, ground := Ground.phase }, { on := 12, ground := Ground.phase }, { on := 13, ground := Ground.textOnly Departure.lateStores }, { on := 14, ground := Ground.phase }], guard := none }) rfl (fun K hK => ?_) AllReadyH.nil
            · obtain ⟨gza, gzb⟩ := gb.two
              obtain ⟨fza, fzb⟩ := gb.two'
              go_simp
              refine hK.out _ _ ?_ (fun hHeld => ?_)
              · exact hall.out _ (since_put2 hr0 hb _ _)
              clear hK K
              try simp only [Act.put, List.setIfInBounds_toArray, List.set_cons_zero, List.set_cons_succ]
              refine' wpAnyH_take (i := 16) (oi := { dst := some 7, op := Op.assign (Operand.tmp 30), type := 32, pos := "ratio.go:109", after := #[{ on := 13, ground := Ground.data }, { on := 15, ground := Ground.chain }, { on := 0, ground := Ground.phase }, { on := 1, ground := Ground.phase }, { on := 2, ground := Ground.phase }, { on := 3, ground := Ground.phase }, { on := 4, ground := Ground.phase }, { on := 5, ground := Ground.phase }, { on := 6, ground := Ground.phase }, { on := 7, ground := Ground.phase }, { on := 8, ground := Ground.phase }, { on := 9, ground := Ground.phase }, { on := 10, ground := Ground.phase }, { on := 11, ground := Ground.phase }, { on := 12, ground := Ground.phase }, { on := 13, ground := Ground.phase }, { on := 14, ground := Ground.phase }, { on := 15, ground := Ground.phase }], guard := none }) (v := _) rfl (by kernel_rfl) (by kernel_rfl) (by kernel_rfl) (fun _ _ _ h => h) (Or.inl ⟨by rfl, ?hy53⟩) (by assumption) ?rest53
              case hy53 => (intro w' ss; (try dsimp only at ss); go_simp; first | done | with_reducible rfl)
              try simp only [Act.put, List.setIfInBounds_toArray, List.set_cons_zero, List.set_cons_succ]
              refine wpAnyH_done (by kernel_rfl) ?_ _
              refine NoPanic.normal ?_
              go_wp2_with fail
              go_meet
              exact ⟨_, Z, z, rfl, rfl, since_put2 hr0 hb _ _, gb.put2 _ _, gb.rowsI rz (put2_far _ _ _ _)⟩
      · go_simp
        refine hK.out _ _ ?_ (since_alloc _ _) ?_
        · exact hall.out _ (hr0.trans (since_alloc _ _))
        clear hK K
        try simp only [Act.put, List.setIfInBounds_toArray, List.set_cons_zero, List.set_cons_succ]
        have gb := Bx.fresh wq2 #[.bool false, .slice none 0 0] 29
        have hbq := hb2
        have rx := rx.since (since_alloc wq2 (.cells #[.bool false, .slice none 0 0] 29))
        have hr0 := hr0.trans (since_alloc wq2 (.cells #[.bool false, .slice none 0 0] 29))
        refine Reg.wpG_ready (rs := [9]) (by kernel_rfl) (by simp) (fun wq5 k5' sq5 => ?_)
        have hr0 := hr0.trans k5'
        have hb5 : w2.heap.size ≤ wq5.heap.size := hr0.size
        have rx := rx.since k5'
        have gb := gb.since k5'
        refine Reg.AllG.first (o := { dst := some 27, op := Op.call { callee := Callee.value (Operand.func 42), args := #[Operand.tmp 24, Operand.tmp 26], argTypes := #[29, 29] }, type := 29, pos := "ratio.go:109", after := #[{ on := 6, ground := Ground.data }, { on := 8, ground := Ground.data }, { on := 4, ground := Ground.chain }], guard := none }) rfl (by rfl) (fun K hK => ?_) Reg.AllG.nil
        · go_simp
          (with_reducible refine (times_at A2 A1 c2 c1 nc nb us ys wq5 (H.out.2.2.1.since (hS0.trans (hB.trans hr0))) (H.out.2.1.since (hS0.trans (hB.trans hr0))) (by have := LL.out; omega) (by have := LL.out; omega) Ez2.out (by have := Lz2.out; omega)).mono ?_)
          rintro e y5 ⟨Y, y, rfl, ry, hx⟩
          refine hK.out _ _ ?_ hx ?_
          · exact hall.out _ (hr0.trans hx)
          clear hK K
          have hr0 := hr0.trans hx
          have rx := rx.since hx
          have gb := gb.since hx
          try simp only [Act.put, List.setIfInBounds_toArray, List.set_cons_zero, List.set_cons_succ]
          refine Reg.wpG_ready (rs := [10]) (by kernel_rfl) (by simp) (fun wq6 k6' sq6 => ?_)
          have hr0 := hr0.trans k6'
          have hb6 : w2.heap.size ≤ wq6.heap.size := hr0.size
          have rx := rx.since k6'
          have ry := ry.since k6'
          have gb := gb.since k6'
          refine Reg.AllG.last (o := { dst := some 28, op := Op.call { callee := Callee.value (Operand.func 41), args := #[Operand.tmp 22, Operand.tmp 27], argTypes := #[29, 29] }, type := 46, pos := "ratio.go:109", after := #[{ on := 4, ground := Ground.data }, { on := 9, ground := Ground.data }, { on := 9, ground := Ground.chain }], guard := none }) rfl (by rfl) (fun K hK => ?_) Reg.AllG.nil
          · go_simp
            (with_reducible refine (add_at X Y x y z1 z2 wq6 rx ry (by have := Lz1.out; omega) (by have := Lz2.out; omega) Ez4.out (by have := Lz4.out; omega)).mono ?_)
            rintro e y6 ⟨Z, z, rfl, rz, hx⟩
            have hr0 := hr0.trans hx
            have rx := rx.since hx
            have ry := ry.since hx
            have gb := gb.since hx
            generalize wq2.heap.size = bq at *
            have hb := hbq
            refine hK.out _ _ ?_ (fun hHeld => ?_)
            · exact hall.out _ hr0
            clear hK K
            try simp only [Act.put, List.setIfInBounds_toArray, List.set_cons_zero, List.set_cons_succ]
            refine' wpAnyH_take (i := 11) (oi := { dst := some 17, op := Op.move (Operand.tmp 28), type := 46, pos := "ratio.go:109", after := #[{ on := 10, ground := Ground.data }], guard := none }) (v := _) rfl (by kernel_rfl) (by kernel_rfl) (by kernel_rfl) (fun _ _ _ h => h) (Or.inl ⟨by rfl, ?hy54⟩) (by assumption) ?rest54
            case hy54 => (intro w' ss; (try dsimp only at ss); go_simp; first | done | with_reducible rfl)
            try simp only [Act.put, List.setIfInBounds_toArray, List.set_cons_zero, List.set_cons_succ]
            refine' wpAnyH_take (i := 12) (oi := { dst := some 29, op := Op.extract (Operand.tmp 17) 0, type := 29, pos := "ratio.go:109", after := #[{ on := 11, ground := Ground.data }], guard := none }) (v := _) rfl (by kernel_rfl) (by kernel_rfl) (by kernel_rfl) (fun _ _ _ h => h) (Or.inl ⟨by rfl, ?hy55⟩) (by assumption) ?rest55
            case hy55 => (intro w' ss; (try dsimp only at ss); go_simp; first | done | with_reducible rfl)
            try simp only [Act.put, List.setIfInBounds_toArray, List.set_cons_zero, List.set_cons_succ]
            refine' wpAnyH_take (i := 13) (oi := { dst := some 30, op := Op.extract (Operand.tmp 17) 1, type := 32, pos := "ratio.go:109", after := #[{ on := 11, ground := Ground.data }, { on := 15, ground := Ground.gcOnly Departure.lateStores }], guard := none }) (v := _) rfl (by kernel_rfl) (by kernel_rfl) (by kernel_rfl) (fun _ _ _ h => h) (Or.inl ⟨by rfl, ?hy56⟩) (by assumption) ?rest56
            case hy56 => (intro w' ss; (try dsimp only at ss); go_simp; first | done | with_reducible rfl)
            try simp only [Act.put, List.setIfInBounds_toArray, List.set_cons_zero, List.set_cons_succ]
            refine wpAnyH_ready (rs := [15]) (by kernel_rfl) (by simp) ?_
            refine AllReadyH.cons (o := { dst := none, op := Op.store 29 (Operand.tmp 6) (Operand.tmp 29), type := 0, pos := "ratio.go:109", after := #[{ on := 14, ground := Ground.data }, { on := 12, ground := Ground.data }, { on := 10, ground := Ground.chain }, { on := 0, ground := Ground.phase }, { on := 1, ground := Ground.phase }, { on := 2, ground := Ground.phase }, { on := 3, ground := Ground.phase }, { on := 4, ground := Ground.phase }, { on := 5, ground := Ground.phase }, { on := 6, ground := Ground.phase }, { on := 7, ground := Ground.phase }, { on := 8, ground := Ground.phase }, { on := 9, ground := Ground.phase }, { on := 10, ground := Ground.phase }, { on := 11, ground := Ground.phase }, { on := 12, ground := Ground.phase }, { on := 13, ground := Ground.textOnly Departure.lateStores }, { on := 14, ground := Ground.phase }], guard := none }) rfl (fun K hK => ?_) AllReadyH.nil
            · obtain ⟨gza, gzb⟩ := gb.two
              obtain ⟨fza, fzb⟩ := gb.two'
              go_simp
              refine hK.out _ _ ?_ (fun hHeld => ?_)
              · exact hall.out _ (since_put2 hr0 hb _ _)
              clear hK K
              try simp only [Act.put, List.setIfInBounds_toArray, List.set_cons_zero, List.set_cons_succ]
              refine' wpAnyH_take (i := 16) (oi := { dst := some 7, op := Op.assign (Operand.tmp 30), type := 32, pos := "ratio.go:109", after := #[{ on := 13, ground := Ground.data }, { on := 15, ground := Ground.chain }, { on := 0, ground := Ground.phase }, { on := 1, ground := Ground.phase }, { on := 2, ground := Ground.phase }, { on := 3, ground := Ground.phase }, { on := 4, ground := Ground.phase }, { on := 5, ground := Ground.phase }, { on := 6, ground := Ground.phase }, { on := 7, ground := Ground.phase }, { on := 8, ground := Ground.phase }, { on := 9, ground := Ground.phase }, { on := 10, ground := Ground.phase }, { on := 11, ground := Ground.phase }, { on := 12, ground := Ground.phase }, { on := 13, ground := Ground.phase }, { on := 14, ground := Ground.phase }, { on := 15, ground := Ground.phase }], guard := none }) (v := _) rfl (by kernel_rfl) (by kernel_rfl) (by kernel_rfl) (fun _ _ _ h => h) (Or.inl ⟨by rfl, ?hy57⟩) (by assumption) ?rest57
              case hy57 => (intro w' ss; (try dsimp only at ss); go_simp; first | done | with_reducible rfl)
              try simp only [Act.put, List.setIfInBounds_toArray, List.set_cons_zero, List.set_cons_succ]
              refine wpAnyH_done (by kernel_rfl) ?_ _
              refine NoPanic.normal ?_
              go_wp2_with fail
              go_meet
              exact ⟨_, Z, z, rfl, rfl, since_put2 hr0 hb _ _, gb.put2 _ _, gb.rowsI rz (put2_far _ _ _ _)⟩
    · go_simp
      refine hK.out _ _ ?_ (since_alloc _ _) ?_
      · exact hall.out _ (hr0.trans (since_alloc _ _))
      clear hK K
      try simp only [Act.put, List.setIfInBounds_toArray, List.set_cons_zero, List.set_cons_succ]
      have gb := Bx.fresh wq1 #[.bool false, .slice none 0 0] 29
      have hbq := hb1
      have hr0 := hr0.trans (since_alloc wq1 (.cells #[.bool false, .slice none 0 0] 29))
      refine Reg.wpG_ready (rs := [4]) (by kernel_rfl) (by simp) (fun wq7 k7' sq7 => ?_)
      have hr0 := hr0.trans k7'
      have hb7 : w2.heap.size ≤ wq7.heap.size := hr0.size
      have gb := gb.since k7'
      refine Reg.AllG.first (o := { dst := some 22, op := Op.call { callee := Callee.value (Operand.func 42), args := #[Operand.tmp 19, Operand.tmp 21], argTypes := #[29, 29] }, type := 29, pos := "ratio.go:109", after := #[{ on := 1, ground := Ground.data }, { on := 3, ground := Ground.data }], guard := none }) rfl (by rfl) (fun K hK => ?_) Reg.AllG.nil
      · go_simp
        (with_reducible refine (times_at A0 A3 c0 c3 na nd xs vs wq7 (H.out.1.since (hS0.trans (hB.trans hr0))) (H.out.2.2.2.since (hS0.trans (hB.trans hr0))) (by have := LL.out; omega) (by have := LL.out; omega) Ez1.out (by have := Lz1.out; omega)).mono ?_)
        rintro e y7 ⟨X, x, rfl, rx, hx⟩
        refine hK.out _ _ ?_ hx ?_
        · exact hall.out _ (hr0.trans hx)
        clear hK K
        have hr0 := hr0.trans hx
        have gb := gb.since hx
        try simp only [Act.put, List.setIfInBounds_toArray, List.set_cons_zero, List.set_cons_succ]
        refine Reg.wpG_ready (rs := [9]) (by kernel_rfl) (by simp) (fun wq8 k8' sq8 => ?_)
        have hr0 := hr0.trans k8'
        have hb8 : w2.heap.size ≤ wq8.heap.size := hr0.size
        have rx := rx.since k8'
        have gb := gb.since k8'
        refine Reg.AllG.first (o := { dst := some 27, op := Op.call { callee := Callee.value (Operand.func 42), args := #[Operand.tmp 24, Operand.tmp 26], argTypes := #[29, 29] }, type := 29, pos := "ratio.go:109", after := #[{ on := 6, ground := Ground.data }, { on := 8, ground := Ground.data }, { on := 4, ground := Ground.chain }], guard := none }) rfl (by rfl) (fun K hK => ?_) Reg.AllG.nil
        · go_simp
          (with_reducible refine (times_at A2 A1 c2 c1 nc nb us ys wq8 (H.out.2.2.1.since (hS0.trans (hB.trans hr0))) (H.out.2.1.since (hS0.trans (hB.trans hr0))) (by have := LL.out; omega) (by have := LL.out; omega) Ez2.out (by have := Lz2.out; omega)).mono ?_)
          rintro e y8 ⟨Y, y, rfl, ry, hx⟩
          refine hK.out _ _ ?_ hx ?_
          · exact hall.out _ (hr0.trans hx)
          clear hK K
          have hr0 := hr0.trans hx
          have rx := rx.since hx
          have gb := gb.since hx
          try simp only [Act.put, List.setIfInBounds_toArray, List.set_cons_zero, List.set_cons_succ]
          refine Reg.wpG_ready (rs := [10]) (by kernel_rfl) (by simp) (fun wq9 k9' sq9 => ?_)
          have hr0 := hr0.trans k9'
          have hb9 : w2.heap.size ≤ wq9.heap.size := hr0.size
          have rx := rx.since k9'
          have ry := ry.since k9'
          have gb := gb.since k9'
          refine Reg.AllG.last (o := { dst := some 28, op := Op.call { callee := Callee.value (Operand.func 41), args := #[Operand.tmp 22, Operand.tmp 27], argTypes := #[29, 29] }, type := 46, pos := "ratio.go:109", after := #[{ on := 4, ground := Ground.data }, { on := 9, ground := Ground.data }, { on := 9, ground := Ground.chain }], guard := none }) rfl (by rfl) (fun K hK => ?_) Reg.AllG.nil
          · go_simp
            (with_reducible refine (add_at X Y x y z1 z2 wq9 rx ry (by have := Lz1.out; omega) (by have := Lz2.out; omega) Ez4.out (by have := Lz4.out; omega)).mono ?_)
            rintro e y9 ⟨Z, z, rfl, rz, hx⟩
            have hr0 := hr0.trans hx
            have rx := rx.since hx
            have ry := ry.since hx
            have gb := gb.since hx
            generalize wq1.heap.size = bq at *
            have hb := hbq
            refine hK.out _ _ ?_ (fun hHeld => ?_)
            · exact hall.out _ hr0
            clear hK K
            try simp only [Act.put, List.setIfInBounds_toArray, List.set_cons_zero, List.set_cons_succ]
            refine' wpAnyH_take (i := 11) (oi := { dst := some 17, op := Op.move (Operand.tmp 28), type := 46, pos := "ratio.go:109", after := #[{ on := 10, ground := Ground.data }], guard := none }) (v := _) rfl (by kernel_rfl) (by kernel_rfl) (by kernel_rfl) (fun _ _ _ h => h) (Or.inl ⟨by rfl, ?hy58⟩) (by assumption) ?rest58
            case hy58 => (intro w' ss; (try dsimp only at ss); go_simp; first | done | with_reducible rfl)
            try simp only [Act.put, List.setIfInBounds_toArray, List.set_cons_zero, List.set_cons_succ]
            refine' wpAnyH_take (i := 12) (oi := { dst := some 29, op := Op.extract (Operand.tmp 17) 0, type := 29, pos := "ratio.go:109", after := #[{ on := 11, ground := Ground.data }], guard := none }) (v := _) rfl (by kernel_rfl) (by kernel_rfl) (by kernel_rfl) (fun _ _ _ h => h) (Or.inl ⟨by rfl, ?hy59⟩) (by assumption) ?rest59
            case hy59 => (intro w' ss; (try dsimp only at ss); go_simp; first | done | with_reducible rfl)
            try simp only [Act.put, List.setIfInBounds_toArray, List.set_cons_zero, List.set_cons_succ]
            refine' wpAnyH_take (i := 13) (oi := { dst := some 30, op := Op.extract (Operand.tmp 17) 1, type := 32, pos := "ratio.go:109", after := #[{ on := 11, ground := Ground.data }, { on := 15, ground := Ground.gcOnly Departure.lateStores }], guard := none }) (v := _) rfl (by kernel_rfl) (by kernel_rfl) (by kernel_rfl) (fun _ _ _ h => h) (Or.inl ⟨by rfl, ?hy60⟩) (by assumption) ?rest60
            case hy60 => (intro w' ss; (try dsimp only at ss); go_simp; first | done | with_reducible rfl)
            try simp only [Act.put, List.setIfInBounds_toArray, List.set_cons_zero, List.set_cons_succ]
            refine wpAnyH_ready (rs := [15]) (by kernel_rfl) (by simp) ?_
            refine AllReadyH.cons (o := { dst := none, op := Op.store 29 (Operand.tmp 6) (Operand.tmp 29), type := 0, pos := "ratio.go:109", after := #[{ on := 14, ground := Ground.data }, { on := 12, ground := Ground.data }, { on := 10, ground := Ground.chain }, { on := 0, ground := Ground.phase }, { on := 1, ground := Ground.phase }, { on := 2, ground := Ground.phase }, { on := 3, ground := Ground.phase }, { on := 4, ground := Ground.phase }, { on := 5, ground := Ground.phase }, { on := 6, ground := Ground.phase }, { on := 7, ground := Ground.phase }, { on := 8, ground := Ground.phase }, { on := 9, ground := Ground.phase }, { on := 10, ground := Ground.phase }, { on := 11, ground := Ground.phase }, { on := 12, ground := Ground.phase }, { on := 13, ground := Ground.textOnly Departure.lateStores }, { on := 14, ground := Ground.phase }], guard := none }) rfl (fun K hK => ?_) AllReadyH.nil
            · obtain ⟨gza, gzb⟩ := gb.two
              obtain ⟨fza, fzb⟩ := gb.two'
              go_simp
              refine hK.out _ _ ?_ (fun hHeld => ?_)
              · exact hall.out _ (since_put2 hr0 hb _ _)
              clear hK K
              try simp only [Act.put, List.setIfInBounds_toArray, List.set_cons_zero, List.set_cons_succ]
              refine' wpAnyH_take (i := 16) (oi := { dst := some 7, op := Op.assign (Operand.tmp 30), type := 32, pos := "ratio.go:109", after := #[{ on := 13, ground := Ground.data }, { on := 15, ground := Ground.chain }, { on := 0, ground := Ground.phase }, { on := 1, ground := Ground.phase }, { on := 2, ground := Ground.phase }, { on := 3, ground := Ground.phase }, { on := 4, ground := Ground.phase }, { on := 5, ground := Ground.phase }, { on := 6, ground := Ground.phase }, { on := 7, ground := Ground.phase }, { on := 8, ground := Ground.phase }, { on := 9, ground := Ground.phase }, { on := 10, ground := Ground.phase }, { on := 11, ground := Ground.phase }, { on := 12, ground := Ground.phase }, { on := 13, ground := Ground.phase }, { on := 14, ground := Ground.phase }, { on := 15, ground := Ground.phase }], guard := none }) (v := _) rfl (by kernel_rfl) (by kernel_rfl) (by kernel_rfl) (fun _ _ _ h => h) (Or.inl ⟨by rfl, ?hy61⟩) (by assumption) ?rest61
              case hy61 => (intro w' ss; (try dsimp only at ss); go_simp; first | done | with_reducible rfl)
              try simp only [Act.put, List.setIfInBounds_toArray, List.set_cons_zero, List.set_cons_succ]
              refine wpAnyH_done (by kernel_rfl) ?_ _
              refine NoPanic.normal ?_
              go_wp2_with fail
              go_meet
              exact ⟨_, Z, z, rfl, rfl, since_put2 hr0 hb _ _, gb.put2 _ _, gb.rowsI rz (put2_far _ _ _ _)⟩
  case rest =>
    obtain ⟨cs, Z, z, rfl, rfl, hc, ga, rz⟩ := hcut
    have hB := hB.trans hc
    have Va : Hid (∀ W', Since wc W' → Bx W' cs #[.bool (ngB z4), .slice Z (mag z4).length z] 29) := fun W' h => ga.since h
    clear hc ga hall
    obtain ⟨wp, hwp⟩ : ∃ x, x = wc := ⟨_, rfl⟩
    subst hwp
    have hall : Hid (∀ W : World, Since wp W → W.cell? ⟨w.heap.size, 0, none⟩ = some (.bool na) ∧ W.cell? ⟨w.heap.size, 1, none⟩ = some (.slice A0 xs.length c0) ∧ W.cell? ⟨w.heap.size, 2, none⟩ = some (.bool nb) ∧ W.cell? ⟨w.heap.size, 3, none⟩ = some (.slice A1 ys.length c1) ∧ W.cell? ⟨w.heap.size + 1, 0, none⟩ = some (.bool nc) ∧ W.cell? ⟨w.heap.size + 1, 1, none⟩ = some (.slice A2 us.length c2) ∧ W.cell? ⟨w.heap.size + 1, 2, none⟩ = some (.bool nd) ∧ W.cell? ⟨w.heap.size + 1, 3, none⟩ = some (.slice A3 vs.length c3) ∧ W.cell? ⟨cs, 0, none⟩ = some (.bool (ngB z4)) ∧ W.cell? ⟨cs, 1, none⟩ = some (.slice Z (mag z4).length z)) := fun W h => by
      obtain ⟨B0, B1, B2⟩ := hbx.out _ (hB.trans h)
      obtain ⟨k0a, k0b, k0c, k0d⟩ := B0.four
      obtain ⟨k1a, k1b, k1c, k1d⟩ := B1.four
      obtain ⟨va, vb⟩ := (Va.out _ h).two
      exact ⟨k0a, k0b, k0c, k0d, k1a, k1b, k1c, k1d, va, vb⟩
    go_upto_region 4 with fail
    have hr0 : Since wp wp.drew := Since.drew (Since.refl wp)
    have rz := rz.since hr0
    refine wp_region_noPanic ?_
    refine Reg.wp_region_G (S := fun W => W.cell? ⟨w.heap.size, 0, none⟩ = some (.bool na) ∧ W.cell? ⟨w.heap.size, 1, none⟩ = some (.slice A0 xs.length c0) ∧ W.cell? ⟨w.heap.size, 2, none⟩ = some (.bool nb) ∧ W.cell? ⟨w.heap.size, 3, none⟩ = some (.slice A1 ys.length c1) ∧ W.cell? ⟨w.heap.size + 1, 0, none⟩ = some (.bool nc) ∧ W.cell? ⟨w.heap.size + 1, 1, none⟩ = some (.slice A2 us.length c2) ∧ W.cell? ⟨w.heap.size + 1, 2, none⟩ = some (.bool nd) ∧ W.cell? ⟨w.heap.size + 1, 3, none⟩ = some (.slice A3 vs.length c3) ∧ W.cell? ⟨cs, 0, none⟩ = some (.bool (ngB z4)) ∧ W.cell? ⟨cs, 1, none⟩ = some (.slice Z (mag z4).length z)) (fun j => [9, 10].contains j) (by kernel_rfl) ?_ ?_
    · exact hall.out _ hr0
    refine' Reg.wpG_take (i := 0) (oi := { dst := some 31, op := Op.load 29 (Operand.tmp 6), type := 29, pos := "ratio.go:110", after := #[], guard := none }) (v := _) [6, 7, 8, 9, 10] [9, 10] rfl rfl (by kernel_rfl) (by kernel_rfl) (by kernel_rfl) (by kernel_rfl) (by kernel_rfl) (by kernel_rfl) (by kernel_rfl) (fun _ _ _ h => h) (Or.inl ⟨by rfl, Or.inl ?hy63⟩) ?rest63
    case hy63 => (intro w' kk ss; (try dsimp only at ss); go_simp; first | done | with_reducible rfl)
    try simp only [Act.put, List.setIfInBounds_toArray, List.set_cons_zero, List.set_cons_succ]
    refine' Reg.wpG_take (i := 1) (oi := { dst := some 32, op := Op.fieldAddr 31 (Operand.tmp 2) 1, type := 0, pos := "ratio.go:110", after := #[], guard := none }) (v := _) [2, 5, 6, 7, 8, 9, 10] [9, 10] rfl rfl (by kernel_rfl) (by kernel_rfl) (by kernel_rfl) (by kernel_rfl) (by kernel_rfl) (by kernel_rfl) (by kernel_rfl) (fun _ _ _ h => h) (Or.inl ⟨by rfl, Or.inl ?hy64⟩) ?rest64
    case hy64 => (intro w' kk ss; (try dsimp only at ss); go_simp; first | done | with_reducible rfl)
    try simp only [Act.put, List.setIfInBounds_toArray, List.set_cons_zero, List.set_cons_succ]
    refine' Reg.wpG_take (i := 2) (oi := { dst := some 33, op := Op.load 29 (Operand.tmp 32), type := 29, pos := "ratio.go:110", after := #[{ on := 1, ground := Ground.data }], guard := none }) (v := _) [5, 6, 7, 8, 9, 10] [9, 10] rfl rfl (by kernel_rfl) (by kernel_rfl) (by kernel_rfl) (by kernel_rfl) (by kernel_rfl) (by kernel_rfl) (by kernel_rfl) (fun _ _ _ h => h) (Or.inl ⟨by rfl, Or.inl ?hy65⟩) ?rest65
    case hy65 => (intro w' kk ss; (try dsimp only at ss); go_simp; first | done | with_reducible rfl)
    try simp only [Act.put, List.setIfInBounds_toArray, List.set_cons_zero, List.set_cons_succ]
    refine' Reg.wpG_take (i := 3) (oi := { dst := some 34, op := Op.fieldAddr 31 (Operand.tmp 3) 1, type := 0, pos := "ratio.go:110", after := #[], guard := none }) (v := _) [4, 5, 6, 7, 8, 9, 10] [9, 10] rfl rfl (by kernel_rfl) (by kernel_rfl) (by kernel_rfl) (by kernel_rfl) (by kernel_rfl) (by kernel_rfl) (by kernel_rfl) (fun _ _ _ h => h) (Or.inl ⟨by rfl, Or.inl ?hy66⟩) ?rest66
    case hy66 => (intro w' kk ss; (try dsimp only at ss); go_simp; first | done | with_reducible rfl)
    try simp only [Act.put, List.setIfInBounds_toArray, List.set_cons_zero, List.set_cons_succ]
    refine' Reg.wpG_take (i := 4) (oi := { dst := some 35, op := Op.load 29 (Operand.tmp 34), type := 29, pos := "ratio.go:110", after := #[{ on := 3, ground := Ground.data }], guard := none }) (v := _) [5, 6, 7, 8, 9, 10] [9, 10] rfl rfl (by kernel_rfl) (by kernel_rfl) (by kernel_rfl) (by kernel_rfl) (by kernel_rfl) (by kernel_rfl) (by kernel_rfl) (fun _ _ _ h => h) (Or.inl ⟨by rfl, Or.inl ?hy67⟩) ?rest67
    case hy67 => (intro w' kk ss; (try dsimp only at ss); go_simp; first | done | with_reducible rfl)
    try simp only [Act.put, List.setIfInBounds_toArray, List.set_cons_zero, List.set_cons_succ]
    refine Reg.wpG_ready (rs := [5]) (by kernel_rfl) (by simp) (fun wq62001 k62001' sq62001 => ?_)
    have hr0 := hr0.trans k62001'
    have rz := rz.since k62001'
    refine Reg.AllG.first (o := { dst := some 36, op := Op.call { callee := Callee.value (Operand.func 42), args := #[Operand.tmp 33, Operand.tmp 35], argTypes := #[29, 29] }, type := 29, pos := "ratio.go:110", after := #[{ on := 2, ground := Ground.data }, { on := 4, ground := Ground.data }], guard := none }) rfl (by rfl) (fun K hK => ?_) Reg.AllG.nil
    have sq := hall.out _ hr0
    go_simp
    (with_reducible refine (times_at A1 A3 c1 c3 nb nd ys vs wq62001 (H.out.2.1.since (hS0.trans (hB.trans hr0))) (H.out.2.2.2.since (hS0.trans (hB.trans hr0))) (by have := LL.out; omega) (by have := LL.out; omega) Ez3.out (by have := Lz3.out; omega)).mono ?_)
    rintro e y62001 ⟨D, d', rfl, rd, hx⟩
    refine hK.out _ _ ?_ hx ?_
    · exact hall.out _ (hr0.trans hx)
    clear hK K sq
    have hr0 := hr0.trans hx
    have rz := rz.since hx
    clear hx
    try simp only [Act.put, List.setIfInBounds_toArray, List.set_cons_zero, List.set_cons_succ]
    refine Reg.wpG_ready (rs := [6]) (by kernel_rfl) (by simp) (fun wq62002 k62002' sq62002 => ?_)
    have hr0 := hr0.trans k62002'
    have rz := rz.since k62002'
    have rd := rd.since k62002'
    refine Reg.AllG.first (o := { dst := some 37, op := Op.call { callee := Callee.value (Operand.func 43), args := #[Operand.tmp 31, Operand.tmp 36], argTypes := #[29, 29] }, type := 33, pos := "ratio.go:110", after := #[{ on := 0, ground := Ground.data }, { on := 5, ground := Ground.data }, { on := 5, ground := Ground.chain }], guard := none }) rfl (by rfl) (fun K hK => ?_) Reg.AllG.nil
    have sq := hall.out _ hr0
    go_simp
    (with_reducible refine ((lowest_any Z D z d' (ngB z4) (ngB z3) (mag z4) (mag z3) wq62002 rz rd (by have := Lz4.out; omega) (by have := Lz3.out; omega) M.out).mono fun _ _ h => RetF.at hr.out h).mono ?_)
    rintro e y62002 ⟨X9, x9, Y9, y9, rfl, r9, q9, hx⟩
    refine hK.out _ _ ?_ hx ?_
    · exact hall.out _ (hr0.trans hx)
    clear hK K sq
    have hr0 := hr0.trans hx
    have rz := rz.since hx
    have rd := rd.since hx
    clear hx
    try simp only [Act.put, List.setIfInBounds_toArray, List.set_cons_zero, List.set_cons_succ]
    refine' Reg.wpG_take (i := 7) (oi := { dst := some 38, op := Op.extract (Operand.tmp 37) 0, type := 31, pos := "ratio.go:110", after := #[{ on := 6, ground := Ground.data }], guard := none }) (v := _) [9, 10] [9, 10] rfl rfl (by kernel_rfl) (by kernel_rfl) (by kernel_rfl) (by kernel_rfl) (by kernel_rfl) (by kernel_rfl) (by kernel_rfl) (fun _ _ _ h => h) (Or.inl ⟨by rfl, Or.inl ?hy68⟩) ?rest68
    case hy68 => (intro w' kk ss; (try dsimp only at ss); go_simp; first | done | with_reducible rfl)
    try simp only [Act.put, List.setIfInBounds_toArray, List.set_cons_zero, List.set_cons_succ]
    refine' Reg.wpG_take (i := 8) (oi := { dst := some 39, op := Op.extract (Operand.tmp 37) 1, type := 32, pos := "ratio.go:110", after := #[{ on := 6, ground := Ground.data }], guard := none }) (v := _) [9, 10] [9, 10] rfl rfl (by kernel_rfl) (by kernel_rfl) (by kernel_rfl) (by kernel_rfl) (by kernel_rfl) (by kernel_rfl) (by kernel_rfl) (fun _ _ _ h => h) (Or.inl ⟨by rfl, Or.inl ?hy69⟩) ?rest69
    case hy69 => (intro w' kk ss; (try dsimp only at ss); go_simp; first | done | with_reducible rfl)
    try simp only [Act.put, List.setIfInBounds_toArray, List.set_cons_zero, List.set_cons_succ]
    refine Reg.wpG_ready (rs := [9]) (by kernel_rfl) (by simp) (fun wq k62003' sq => ?_)
    have hr0 := hr0.trans k62003'
    have rz := rz.since k62003'
    have rd := rd.since k62003'
    have r9 := r9.since k62003'
    have q9 := q9.since k62003'
    refine Reg.AllG.last (o := { dst := none, op := Op.store 31 (Operand.tmp 4) (Operand.tmp 38), type := 0, pos := "ratio.go:110", after := #[{ on := 7, ground := Ground.data }, { on := 6, ground := Ground.chain }, { on := 0, ground := Ground.phase }, { on := 1, ground := Ground.phase }, { on := 2, ground := Ground.phase }, { on := 3, ground := Ground.phase }, { on := 4, ground := Ground.phase }, { on := 5, ground := Ground.phase }, { on := 6, ground := Ground.phase }, { on := 7, ground := Ground.phase }, { on := 8, ground := Ground.phase }], guard := none }) rfl (by rfl) (fun K hK => ?_) Reg.AllG.nil
    obtain ⟨B0, B1, gr⟩ := hbx.out _ (hB.trans hr0)
    obtain ⟨k0a, k0b, k0c, k0d⟩ := B0.four
    obtain ⟨k1a, k1b, k1c, k1d⟩ := B1.four
    obtain ⟨r0a, r0b, r0c, r0d⟩ := gr.four
    obtain ⟨f0a, f0b, f0c, f0d⟩ := gr.four'
    obtain ⟨va, vb⟩ := (Va.out _ hr0).two
    have nq1 : cs ≠ w.heap.size + 1 + 1 := by rintro rfl; have h1 := (Va.out _ hr0); have h2 := gr; unfold Bx at h1 h2; rw [h1] at h2; simp at h2
    have nq2 : w.heap.size + 1 + 1 ≠ cs := Ne.symm nq1
    go_simp
    refine hK.out _ _ ?_ (fun hHeld => ?_)
    · refine ⟨?_, ?_, ?_, ?_, ?_, ?_, ?_, ?_, ?_, ?_⟩ <;> go_simp
    clear hK K
    try simp only [Act.put, List.setIfInBounds_toArray, List.set_cons_zero, List.set_cons_succ]
    refine' wpAnyH_take (i := 10) (oi := { dst := some 5, op := Op.assign (Operand.tmp 39), type := 32, pos := "ratio.go:110", after := #[{ on := 8, ground := Ground.data }, { on := 9, ground := Ground.chain }, { on := 0, ground := Ground.phase }, { on := 1, ground := Ground.phase }, { on := 2, ground := Ground.phase }, { on := 3, ground := Ground.phase }, { on := 4, ground := Ground.phase }, { on := 5, ground := Ground.phase }, { on := 6, ground := Ground.phase }, { on := 7, ground := Ground.phase }, { on := 8, ground := Ground.phase }, { on := 9, ground := Ground.phase }], guard := none }) (v := _) rfl (by kernel_rfl) (by kernel_rfl) (by kernel_rfl) (fun _ _ _ h => h) (Or.inl ⟨by rfl, ?hy70⟩) (by assumption) ?rest70
    case hy70 => (intro w' ss; (try dsimp only at ss); go_simp; first | done | with_reducible rfl)
    try simp only [Act.put, List.setIfInBounds_toArray, List.set_cons_zero, List.set_cons_succ]
    refine wpAnyH_done (by kernel_rfl) ?_ _
    refine NoPanic.normal ?_
    go_wp2_with fail
    refine bodyPost_ret (v := (.tuple #[.agg #[.bool n1, .slice X9 s1.length x9, .bool n2, .slice Y9 s2.length y9], .int .i64 er])) ?_ rfl ?_
    · simp [results, Tryz.results11, go_sem, r0a, r0b, r0c, r0d]
    · rw [FN.out]; exact RetF.of rfl ⟨_, _, _, _, rfl, gr.rowsR r9 (put4_far _ _ _ _ _ _), gr.rowsR q9 (put4_far _ _ _ _ _ _), since_put4 (hS0.trans (hB.trans hr0)) (by omega) _ _ _ _⟩
end Go.Proofs.YtbbemgeinlehmaaGreatDoor.Sr04
