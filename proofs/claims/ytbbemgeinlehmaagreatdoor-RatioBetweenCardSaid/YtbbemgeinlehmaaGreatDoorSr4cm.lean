/- What Cmp of package ratio gives back. -/
import Derived.Test.YtbbemgeinlehmaaGreatDoorTa
import Derived.Test.YtbbemgeinlehmaaGreatDoorSb
import Derived.Test.YtbbemgeinlehmaaGreatDoorRg
import Derived.Deep.DeepCutAuto
namespace Go.Proofs.YtbbemgeinlehmaaGreatDoor.Sr04
open Go.RowKit
set_option linter.unusedVariables false
open Go.Proofs.YtbbemgeinlehmaaGreatDoor.Dig Go.Proofs.YtbbemgeinlehmaaGreatDoor.R4 Go.Proofs.YtbbemgeinlehmaaGreatDoor.Fr
open Go.Proofs.YtbbemgeinlehmaaGreatDoor.Ref03 (sv srightB gcdZ divZ negZ mulZ addZ cmpZ textZ sval ngB mag RetZ RetQR RetS)
set_option linter.unusedSimpArgs false
open Go.Proofs.YtbbemgeinlehmaaGreatDoor.Ref04

set_option maxRecDepth 100000 in
set_option maxHeartbeats 4000000 in
theorem cmp_any (A0 A1 A2 A3 : Option Addr) (c0 c1 c2 c3 : Nat) (na nb nc nd : Bool) (xs ys us vs : List Nat) (w : World) (hx : Row w (.slice A0 xs.length c0) xs) (hy : Row w (.slice A1 ys.length c1) ys) (hu : Row w (.slice A2 us.length c2) us) (hv : Row w (.slice A3 vs.length c3) vs) (lx : xs.length ≤ 1000) (ly : ys.length ≤ 1000) (lu : us.length ≤ 1000) (lv : vs.length ≤ 1000) :
    Calls Tryz.prog 16 #[.agg #[.bool na, .slice A0 xs.length c0, .bool nb, .slice A1 ys.length c1], .agg #[.bool nc, .slice A2 us.length c2, .bool nd, .slice A3 vs.length c3]] w fun e w' => e = .returned (.tuple #[.int .i64 (cmpR ((na, xs), (nb, ys)) ((nc, us), (nd, vs))).1, .int .i64 (cmpR ((na, xs), (nb, ys)) ((nc, us), (nd, vs))).2]) ∧ Since w w' := by
  have H := Lib.hid (And.intro hx (And.intro hy (And.intro hu hv)))
  have LL := Lib.hid (And.intro lx (And.intro ly (And.intro lu lv)))
  clear hx hy hu hv lx ly lu lv
  obtain ⟨W0, hW0⟩ : ∃ W0, W0 = (w.alloc (.cells #[.bool na, .slice A0 xs.length c0, .bool nb, .slice A1 ys.length c1] 31)).alloc (.cells #[.bool nc, .slice A2 us.length c2, .bool nd, .slice A3 vs.length c3] 31) := ⟨_, rfl⟩
  have HW := Lib.hid hW0
  have hS0 : Since w W0 := by rw [hW0]; exact ((Since.refl w).alloc _).alloc _
  have hbx : Hid (∀ W : World, Since W0 W → Bx W (w.heap.size) #[.bool na, .slice A0 xs.length c0, .bool nb, .slice A1 ys.length c1] 31 ∧ Bx W (w.heap.size + 1) #[.bool nc, .slice A2 us.length c2, .bool nd, .slice A3 vs.length c3] 31) := fun W h => ⟨Bx.new ((since_alloc _ _).trans (hW0 ▸ h)) (by simp), Bx.new (hW0 ▸ h) (by simp)⟩
  clear hW0
  have hK := Since.refl W0
  by_cases ra : rrB ((na, xs), (nb, ys)) = true
  rotate_left
  · have FN := Lib.hid (show cmpR ((na, xs), (nb, ys)) ((nc, us), (nd, vs)) = (0, 2) from if_neg (fun h => ra h.1))
    have RA := Lib.hid (show rrB ((na, xs), (nb, ys)) = false by simpa using ra)
    clear ra
    go_enter Tryz.func16, Tryz.ntmps16
    go_wp2_with fail
    rw [← HW.out]
    obtain ⟨B0, B1⟩ := hbx.out _ hK; obtain ⟨k0a, k0b, k0c, k0d⟩ := B0.four; obtain ⟨k1a, k1b, k1c, k1d⟩ := B1.four
    go_wp2_with (first
      | (go_at_call 35; (with_reducible refine (right_any A0 A1 c0 c1 na nb xs ys _ (H.out.1.since (hS0.trans hK)) (H.out.2.1.since (hS0.trans hK)) (by have := LL.out; omega) (by have := LL.out; omega)).mono ?_); rw [RA.out]; rintro e w1 ⟨rfl, h⟩; have hK := hK.trans h; obtain ⟨B0, B1⟩ := hbx.out _ hK; obtain ⟨k0a, k0b, k0c, k0d⟩ := B0.four; obtain ⟨k1a, k1b, k1c, k1d⟩ := B1.four))
    refine bodyPost_ret (v := .tuple #[.int .i64 0, .int .i64 2]) ?_ rfl ?_
    · simp [results, Tryz.results16, go_sem]
    · rw [FN.out]; exact ⟨rfl, hS0.trans hK⟩
  have RA := Lib.hid ra
  by_cases rb : rrB ((nc, us), (nd, vs)) = true
  rotate_left
  · have FN := Lib.hid (show cmpR ((na, xs), (nb, ys)) ((nc, us), (nd, vs)) = (0, 2) from if_neg (fun h => rb h.2))
    have RB := Lib.hid (show rrB ((nc, us), (nd, vs)) = false by simpa using rb)
    clear ra rb
    go_enter Tryz.func16, Tryz.ntmps16
    go_wp2_with fail
    rw [← HW.out]
    obtain ⟨B0, B1⟩ := hbx.out _ hK; obtain ⟨k0a, k0b, k0c, k0d⟩ := B0.four; obtain ⟨k1a, k1b, k1c, k1d⟩ := B1.four
    go_wp2_with (first
      | (go_at_call 35; (with_reducible refine (right_any A0 A1 c0 c1 na nb xs ys _ (H.out.1.since (hS0.trans hK)) (H.out.2.1.since (hS0.trans hK)) (by have := LL.out; omega) (by have := LL.out; omega)).mono ?_); rw [RA.out]; rintro e w1 ⟨rfl, h⟩; have hK := hK.trans h; obtain ⟨B0, B1⟩ := hbx.out _ hK; obtain ⟨k0a, k0b, k0c, k0d⟩ := B0.four; obtain ⟨k1a, k1b, k1c, k1d⟩ := B1.four)
      | (go_at_call 35; (with_reducible refine (right_any A2 A3 c2 c3 nc nd us vs _ (H.out.2.2.1.since (hS0.trans hK)) (H.out.2.2.2.since (hS0.trans hK)) (by have := LL.out; omega) (by have := LL.out; omega)).mono ?_); rw [RB.out]; rintro e w2 ⟨rfl, h⟩; have hK := hK.trans h; obtain ⟨B0, B1⟩ := hbx.out _ hK; obtain ⟨k0a, k0b, k0c, k0d⟩ := B0.four; obtain ⟨k1a, k1b, k1c, k1d⟩ := B1.four))
    refine bodyPost_ret (v := .tuple #[.int .i64 0, .int .i64 2]) ?_ rfl ?_
    · simp [results, Tryz.results16, go_sem]
    · rw [FN.out]; exact ⟨rfl, hS0.trans hK⟩
  have RB := Lib.hid rb
  have FA := Lib.hid (facts H.out.1.dig H.out.2.1.dig H.out.2.2.1.dig H.out.2.2.2.dig ra rb)
  obtain ⟨z1, ez1⟩ : ∃ z : Int, sval na xs * sval nd vs = z := ⟨_, rfl⟩
  have Ez1 := Lib.hid (show (_ ∧ _) ∧ _ = _ from ⟨⟨FA.out.w1, FA.out.w4⟩, ez1⟩)
  have Lz1 := Lib.hid (show (mag z1).length ≤ 130 by rw [← ez1]; exact FA.out.l1)
  obtain ⟨z2, ez2⟩ : ∃ z : Int, sval nc us * sval nb ys = z := ⟨_, rfl⟩
  have Ez2 := Lib.hid (show (_ ∧ _) ∧ _ = _ from ⟨⟨FA.out.w3, FA.out.w2⟩, ez2⟩)
  have Lz2 := Lib.hid (show (mag z2).length ≤ 130 by rw [← ez2]; exact FA.out.l2)
  have FN := Lib.hid (show cmpR ((na, xs), (nb, ys)) ((nc, us), (nd, vs)) = (cmpI z1 z2, 0) by rw [← ez1, ← ez2]; exact if_pos ⟨ra, rb⟩)
  clear ra rb ez1 ez2
  go_enter Tryz.func16, Tryz.ntmps16
  go_wp2_with fail
  rw [← HW.out]
  obtain ⟨B0, B1⟩ := hbx.out _ hK; obtain ⟨k0a, k0b, k0c, k0d⟩ := B0.four; obtain ⟨k1a, k1b, k1c, k1d⟩ := B1.four
  go_upto_region 3 with (first
    | (go_at_call 35; (with_reducible refine (right_any A0 A1 c0 c1 na nb xs ys _ (H.out.1.since (hS0.trans hK)) (H.out.2.1.since (hS0.trans hK)) (by have := LL.out; omega) (by have := LL.out; omega)).mono ?_); rw [RA.out]; rintro e w1 ⟨rfl, h⟩; have hK := hK.trans h; obtain ⟨B0, B1⟩ := hbx.out _ hK; obtain ⟨k0a, k0b, k0c, k0d⟩ := B0.four; obtain ⟨k1a, k1b, k1c, k1d⟩ := B1.four)
    | (go_at_call 35; (with_reducible refine (right_any A2 A3 c2 c3 nc nd us vs _ (H.out.2.2.1.since (hS0.trans hK)) (H.out.2.2.2.since (hS0.trans hK)) (by have := LL.out; omega) (by have := LL.out; omega)).mono ?_); rw [RB.out]; rintro e w2 ⟨rfl, h⟩; have hK := hK.trans h; obtain ⟨B0, B1⟩ := hbx.out _ hK; obtain ⟨k0a, k0b, k0c, k0d⟩ := B0.four; obtain ⟨k1a, k1b, k1c, k1d⟩ := B1.four))
  have hB := hK
  have hall : Hid (∀ W : World, Since w2 W → W.cell? ⟨w.heap.size, 0, none⟩ = some (.bool na) ∧ W.cell? ⟨w.heap.size, 1, none⟩ = some (.slice A0 xs.length c0) ∧ W.cell? ⟨w.heap.size, 2, none⟩ = some (.bool nb) ∧ W.cell? ⟨w.heap.size, 3, none⟩ = some (.slice A1 ys.length c1) ∧ W.cell? ⟨w.heap.size + 1, 0, none⟩ = some (.bool nc) ∧ W.cell? ⟨w.heap.size + 1, 1, none⟩ = some (.slice A2 us.length c2) ∧ W.cell? ⟨w.heap.size + 1, 2, none⟩ = some (.bool nd) ∧ W.cell? ⟨w.heap.size + 1, 3, none⟩ = some (.slice A3 vs.length c3)) := fun W h => by
    obtain ⟨B0, B1⟩ := hbx.out _ (hB.trans h)
    obtain ⟨k0a, k0b, k0c, k0d⟩ := B0.four
    obtain ⟨k1a, k1b, k1c, k1d⟩ := B1.four
    exact ⟨k0a, k0b, k0c, k0d, k1a, k1b, k1c, k1d⟩
  have hr0 : Since w2 w2.drew := Since.drew (Since.refl w2)
  refine wp_region_noPanic ?_
  refine Reg.wp_region_G (S := fun W => W.cell? ⟨w.heap.size, 0, none⟩ = some (.bool na) ∧ W.cell? ⟨w.heap.size, 1, none⟩ = some (.slice A0 xs.length c0) ∧ W.cell? ⟨w.heap.size, 2, none⟩ = some (.bool nb) ∧ W.cell? ⟨w.heap.size, 3, none⟩ = some (.slice A1 ys.length c1) ∧ W.cell? ⟨w.heap.size + 1, 0, none⟩ = some (.bool nc) ∧ W.cell? ⟨w.heap.size + 1, 1, none⟩ = some (.slice A2 us.length c2) ∧ W.cell? ⟨w.heap.size + 1, 2, none⟩ = some (.bool nd) ∧ W.cell? ⟨w.heap.size + 1, 3, none⟩ = some (.slice A3 vs.length c3)) (fun j => [].contains j) (by kernel_rfl) ?_ ?_
  · exact hall.out _ hr0
  refine' Reg.wpG_take (i := 0) (oi := { dst := some 14, op := Op.fieldAddr 31 (Operand.tmp 2) 0, type := 0, pos := "ratio.go:81", after := #[], guard := none }) (v := _) [1, 4, 9, 10, 11, 12, 13, 14] [] rfl rfl (by kernel_rfl) (by kernel_rfl) (by kernel_rfl) (by kernel_rfl) (by kernel_rfl) (by kernel_rfl) (by kernel_rfl) (fun _ _ _ h => h) (Or.inl ⟨by rfl, Or.inl ?hy2⟩) ?rest2
  case hy2 => (intro w' kk ss; (try dsimp only at ss); go_simp; first | done | with_reducible rfl)
  try simp only [Act.put, List.setIfInBounds_toArray, List.set_cons_zero, List.set_cons_succ]
  refine' Reg.wpG_take (i := 1) (oi := { dst := some 15, op := Op.load 29 (Operand.tmp 14), type := 29, pos := "ratio.go:81", after := #[{ on := 0, ground := Ground.data }], guard := none }) (v := _) [4, 9, 10, 11, 12, 13, 14] [] rfl rfl (by kernel_rfl) (by kernel_rfl) (by kernel_rfl) (by kernel_rfl) (by kernel_rfl) (by kernel_rfl) (by kernel_rfl) (fun _ _ _ h => h) (Or.inl ⟨by rfl, Or.inl ?hy3⟩) ?rest3
  case hy3 => (intro w' kk ss; (try dsimp only at ss); go_simp; first | done | with_reducible rfl)
  try simp only [Act.put, List.setIfInBounds_toArray, List.set_cons_zero, List.set_cons_succ]
  refine' Reg.wpG_take (i := 2) (oi := { dst := some 16, op := Op.fieldAddr 31 (Operand.tmp 3) 1, type := 0, pos := "ratio.go:81", after := #[], guard := none }) (v := _) [3, 4, 9, 10, 11, 12, 13, 14] [] rfl rfl (by kernel_rfl) (by kernel_rfl) (by kernel_rfl) (by kernel_rfl) (by kernel_rfl) (by kernel_rfl) (by kernel_rfl) (fun _ _ _ h => h) (Or.inl ⟨by rfl, Or.inl ?hy4⟩) ?rest4
  case hy4 => (intro w' kk ss; (try dsimp only at ss); go_simp; first | done | with_reducible rfl)
  try simp only [Act.put, List.setIfInBounds_toArray, List.set_cons_zero, List.set_cons_succ]
  refine' Reg.wpG_take (i := 3) (oi := { dst := some 17, op := Op.load 29 (Operand.tmp 16), type := 29, pos := "ratio.go:81", after := #[{ on := 2, ground := Ground.data }], guard := none }) (v := _) [4, 9, 10, 11, 12, 13, 14] [] rfl rfl (by kernel_rfl) (by kernel_rfl) (by kernel_rfl) (by kernel_rfl) (by kernel_rfl) (by kernel_rfl) (by kernel_rfl) (fun _ _ _ h => h) (Or.inl ⟨by rfl, Or.inl ?hy5⟩) ?rest5
  case hy5 => (intro w' kk ss; (try dsimp only at ss); go_simp; first | done | with_reducible rfl)
  try simp only [Act.put, List.setIfInBounds_toArray, List.set_cons_zero, List.set_cons_succ]
  refine' Reg.wpG_take (i := 5) (oi := { dst := some 19, op := Op.fieldAddr 31 (Operand.tmp 3) 0, type := 0, pos := "ratio.go:81", after := #[], guard := none }) (v := _) [6, 9, 10, 11, 12, 13, 14] [] rfl rfl (by kernel_rfl) (by kernel_rfl) (by kernel_rfl) (by kernel_rfl) (by kernel_rfl) (by kernel_rfl) (by kernel_rfl) (fun _ _ _ h => h) (Or.inl ⟨by rfl, Or.inl ?hy6⟩) ?rest6
  case hy6 => (intro w' kk ss; (try dsimp only at ss); go_simp; first | done | with_reducible rfl)
  try simp only [Act.put, List.setIfInBounds_toArray, List.set_cons_zero, List.set_cons_succ]
  refine' Reg.wpG_take (i := 6) (oi := { dst := some 20, op := Op.load 29 (Operand.tmp 19), type := 29, pos := "ratio.go:81", after := #[{ on := 5, ground := Ground.data }], guard := none }) (v := _) [9, 10, 11, 12, 13, 14] [] rfl rfl (by kernel_rfl) (by kernel_rfl) (by kernel_rfl) (by kernel_rfl) (by kernel_rfl) (by kernel_rfl) (by kernel_rfl) (fun _ _ _ h => h) (Or.inl ⟨by rfl, Or.inl ?hy7⟩) ?rest7
  case hy7 => (intro w' kk ss; (try dsimp only at ss); go_simp; first | done | with_reducible rfl)
  try simp only [Act.put, List.setIfInBounds_toArray, List.set_cons_zero, List.set_cons_succ]
  refine' Reg.wpG_take (i := 7) (oi := { dst := some 21, op := Op.fieldAddr 31 (Operand.tmp 2) 1, type := 0, pos := "ratio.go:81", after := #[], guard := none }) (v := _) [8, 9, 10, 11, 12, 13, 14] [] rfl rfl (by kernel_rfl) (by kernel_rfl) (by kernel_rfl) (by kernel_rfl) (by kernel_rfl) (by kernel_rfl) (by kernel_rfl) (fun _ _ _ h => h) (Or.inl ⟨by rfl, Or.inl ?hy8⟩) ?rest8
  case hy8 => (intro w' kk ss; (try dsimp only at ss); go_simp; first | done | with_reducible rfl)
  try simp only [Act.put, List.setIfInBounds_toArray, List.set_cons_zero, List.set_cons_succ]
  refine' Reg.wpG_take (i := 8) (oi := { dst := some 22, op := Op.load 29 (Operand.tmp 21), type := 29, pos := "ratio.go:81", after := #[{ on := 7, ground := Ground.data }], guard := none }) (v := _) [9, 10, 11, 12, 13, 14] [] rfl rfl (by kernel_rfl) (by kernel_rfl) (by kernel_rfl) (by kernel_rfl) (by kernel_rfl) (by kernel_rfl) (by kernel_rfl) (fun _ _ _ h => h) (Or.inl ⟨by rfl, Or.inl ?hy9⟩) ?rest9
  case hy9 => (intro w' kk ss; (try dsimp only at ss); go_simp; first | done | with_reducible rfl)
  try simp only [Act.put, List.setIfInBounds_toArray, List.set_cons_zero, List.set_cons_succ]
  refine Reg.wpG_ready (rs := [4]) (by kernel_rfl) (by simp) (fun wq1001 k1001' sq1001 => ?_)
  have hr0 := hr0.trans k1001'
  refine Reg.AllG.first (o := { dst := some 18, op := Op.call { callee := Callee.value (Operand.func 42), args := #[Operand.tmp 15, Operand.tmp 17], argTypes := #[29, 29] }, type := 29, pos := "ratio.go:81", after := #[{ on := 1, ground := Ground.data }, { on := 3, ground := Ground.data }], guard := none }) rfl (by rfl) (fun K hK => ?_) Reg.AllG.nil
  have sq := hall.out _ hr0
  go_simp
  (with_reducible refine (times_at A0 A3 c0 c3 na nd xs vs wq1001 (H.out.1.since (hS0.trans (hB.trans hr0))) (H.out.2.2.2.since (hS0.trans (hB.trans hr0))) (by have := LL.out; omega) (by have := LL.out; omega) Ez1.out (by have := Lz1.out; omega)).mono ?_)
  rintro e y1001 ⟨X, x, rfl, rx, hx⟩
  refine hK.out _ _ ?_ hx ?_
  · exact hall.out _ (hr0.trans hx)
  clear hK K sq
  have hr0 := hr0.trans hx
  clear hx
  try simp only [Act.put, List.setIfInBounds_toArray, List.set_cons_zero, List.set_cons_succ]
  refine Reg.wpG_ready (rs := [9]) (by kernel_rfl) (by simp) (fun wq1002 k1002' sq1002 => ?_)
  have hr0 := hr0.trans k1002'
  have rx := rx.since k1002'
  refine Reg.AllG.first (o := { dst := some 23, op := Op.call { callee := Callee.value (Operand.func 42), args := #[Operand.tmp 20, Operand.tmp 22], argTypes := #[29, 29] }, type := 29, pos := "ratio.go:81", after := #[{ on := 6, ground := Ground.data }, { on := 8, ground := Ground.data }, { on := 4, ground := Ground.chain }], guard := none }) rfl (by rfl) (fun K hK => ?_) Reg.AllG.nil
  have sq := hall.out _ hr0
  go_simp
  (with_reducible refine (times_at A2 A1 c2 c1 nc nb us ys wq1002 (H.out.2.2.1.since (hS0.trans (hB.trans hr0))) (H.out.2.1.since (hS0.trans (hB.trans hr0))) (by have := LL.out; omega) (by have := LL.out; omega) Ez2.out (by have := Lz2.out; omega)).mono ?_)
  rintro e y1002 ⟨Y, y, rfl, ry, hx⟩
  refine hK.out _ _ ?_ hx ?_
  · exact hall.out _ (hr0.trans hx)
  clear hK K sq
  have hr0 := hr0.trans hx
  have rx := rx.since hx
  clear hx
  try simp only [Act.put, List.setIfInBounds_toArray, List.set_cons_zero, List.set_cons_succ]
  refine Reg.wpG_ready (rs := [10]) (by kernel_rfl) (by simp) (fun wq1003 k1003' sq1003 => ?_)
  have hr0 := hr0.trans k1003'
  have rx := rx.since k1003'
  have ry := ry.since k1003'
  refine Reg.AllG.first (o := { dst := some 24, op := Op.call { callee := Callee.value (Operand.func 50), args := #[Operand.tmp 18, Operand.tmp 23], argTypes := #[29, 29] }, type := 40, pos := "ratio.go:81", after := #[{ on := 4, ground := Ground.data }, { on := 9, ground := Ground.data }, { on := 9, ground := Ground.chain }], guard := none }) rfl (by rfl) (fun K hK => ?_) Reg.AllG.nil
  have sq := hall.out _ hr0
  go_simp
  (with_reducible refine (scmp_at X Y x y z1 z2 wq1003 rx ry (by have := Lz1.out; omega) (by have := Lz2.out; omega)).mono ?_)
  rintro e y1003 ⟨rfl, hx⟩
  refine hK.out _ _ ?_ hx ?_
  · exact hall.out _ (hr0.trans hx)
  clear hK K sq
  have hr0 := hr0.trans hx
  have rx := rx.since hx
  have ry := ry.since hx
  clear hx
  try simp only [Act.put, List.setIfInBounds_toArray, List.set_cons_zero, List.set_cons_succ]
  refine' Reg.wpG_take (i := 11) (oi := { dst := some 25, op := Op.extract (Operand.tmp 24) 0, type := 3, pos := "ratio.go:81", after := #[{ on := 10, ground := Ground.data }], guard := none }) (v := _) [13, 14] [] rfl rfl (by kernel_rfl) (by kernel_rfl) (by kernel_rfl) (by kernel_rfl) (by kernel_rfl) (by kernel_rfl) (by kernel_rfl) (fun _ _ _ h => h) (Or.inl ⟨by rfl, Or.inl ?hy10⟩) ?rest10
  case hy10 => (intro w' kk ss; (try dsimp only at ss); go_simp; first | done | with_reducible rfl)
  try simp only [Act.put, List.setIfInBounds_toArray, List.set_cons_zero, List.set_cons_succ]
  refine' Reg.wpG_take (i := 12) (oi := { dst := some 26, op := Op.extract (Operand.tmp 24) 1, type := 32, pos := "ratio.go:81", after := #[{ on := 10, ground := Ground.data }], guard := none }) (v := _) [13, 14] [] rfl rfl (by kernel_rfl) (by kernel_rfl) (by kernel_rfl) (by kernel_rfl) (by kernel_rfl) (by kernel_rfl) (by kernel_rfl) (fun _ _ _ h => h) (Or.inl ⟨by rfl, Or.inl ?hy11⟩) ?rest11
  case hy11 => (intro w' kk ss; (try dsimp only at ss); go_simp; first | done | with_reducible rfl)
  try simp only [Act.put, List.setIfInBounds_toArray, List.set_cons_zero, List.set_cons_succ]
  refine' Reg.wpG_take (i := 13) (oi := { dst := some 4, op := Op.assign (Operand.tmp 25), type := 3, pos := "ratio.go:81", after := #[{ on := 11, ground := Ground.data }, { on := 10, ground := Ground.chain }, { on := 0, ground := Ground.phase }, { on := 1, ground := Ground.phase }, { on := 2, ground := Ground.phase }, { on := 3, ground := Ground.phase }, { on := 4, ground := Ground.phase }, { on := 5, ground := Ground.phase }, { on := 6, ground := Ground.phase }, { on := 7, ground := Ground.phase }, { on := 8, ground := Ground.phase }, { on := 9, ground := Ground.phase }, { on := 10, ground := Ground.phase }, { on := 11, ground := Ground.phase }, { on := 12, ground := Ground.phase }], guard := none }) (v := _) [14] [] rfl rfl (by kernel_rfl) (by kernel_rfl) (by kernel_rfl) (by kernel_rfl) (by kernel_rfl) (by kernel_rfl) (by kernel_rfl) (fun _ _ _ h => h) (Or.inl ⟨by rfl, Or.inl ?hy12⟩) ?rest12
  case hy12 => (intro w' kk ss; (try dsimp only at ss); go_simp; first | done | with_reducible rfl)
  try simp only [Act.put, List.setIfInBounds_toArray, List.set_cons_zero, List.set_cons_succ]
  refine' Reg.wpG_take (i := 14) (oi := { dst := some 5, op := Op.assign (Operand.tmp 26), type := 32, pos := "ratio.go:81", after := #[{ on := 12, ground := Ground.data }, { on := 13, ground := Ground.chain }, { on := 0, ground := Ground.phase }, { on := 1, ground := Ground.phase }, { on := 2, ground := Ground.phase }, { on := 3, ground := Ground.phase }, { on := 4, ground := Ground.phase }, { on := 5, ground := Ground.phase }, { on := 6, ground := Ground.phase }, { on := 7, ground := Ground.phase }, { on := 8, ground := Ground.phase }, { on := 9, ground := Ground.phase }, { on := 10, ground := Ground.phase }, { on := 11, ground := Ground.phase }, { on := 12, ground := Ground.phase }, { on := 13, ground := Ground.phase }], guard := none }) (v := _) [] [] rfl rfl (by kernel_rfl) (by kernel_rfl) (by kernel_rfl) (by kernel_rfl) (by kernel_rfl) (by kernel_rfl) (by kernel_rfl) (fun _ _ _ h => h) (Or.inl ⟨by rfl, Or.inl ?hy13⟩) ?rest13
  case hy13 => (intro w' kk ss; (try dsimp only at ss); go_simp; first | done | with_reducible rfl)
  try simp only [Act.put, List.setIfInBounds_toArray, List.set_cons_zero, List.set_cons_succ]
  refine Reg.wpG_done (by kernel_rfl) (fun we ke se => ?_) _
  refine NoPanic.normal ?_
  have hr0 := hr0.trans ke
  have rx := rx.since ke
  have ry := ry.since ke
  clear ke
  go_wp2_with fail
  refine bodyPost_ret (v := .tuple #[.int .i64 (cmpI z1 z2), .int .i64 0]) ?_ rfl ?_
  · simp [results, Tryz.results16, go_sem]
  · rw [FN.out]; exact ⟨rfl, hS0.trans (hB.trans hr0)⟩
end Go.Proofs.YtbbemgeinlehmaaGreatDoor.Sr04
