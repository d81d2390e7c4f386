/- What the opposite of a fraction in package ratio is: inside. -/
import Derived.Test.YtbbemgeinlehmaaGreatDoorTa
import Derived.Test.YtbbemgeinlehmaaGreatDoorSb
import Derived.Test.YtbbemgeinlehmaaGreatDoorRg
import Derived.Deep.DeepCutAuto
namespace Go.Proofs.YtbbemgeinlehmaaGreatDoor.Sr04
open Go.RowKit
set_option linter.unusedVariables false
open Go.Proofs.YtbbemgeinlehmaaGreatDoor.Dig Go.Proofs.YtbbemgeinlehmaaGreatDoor.R4 Go.Proofs.YtbbemgeinlehmaaGreatDoor.Fr
open Go.Proofs.YtbbemgeinlehmaaGreatDoor.Ref03 (sv srightB gcdZ divZ negZ mulZ addZ cmpZ textZ sval ngB mag RetZ RetQR RetS)
set_option linter.unusedSimpArgs false
open Go.Proofs.YtbbemgeinlehmaaGreatDoor.Ref04

set_option maxRecDepth 100000 in
set_option maxHeartbeats 4000000 in
theorem opp_any (A0 A1 : Option Addr) (c0 c1 : Nat) (na nb : Bool) (xs ys : List Nat) (w : World) (hx : Row w (.slice A0 xs.length c0) xs) (hy : Row w (.slice A1 ys.length c1) ys) (lx : xs.length ≤ 1000) (ly : ys.length ≤ 1000) {n1 : Bool} {s1 : List Nat} (hn : negZ na xs = ((n1, s1), 0)) :
    Calls Tryz.prog 48 #[.agg #[.bool na, .slice A0 xs.length c0, .bool nb, .slice A1 ys.length c1]] w (RetFv ((n1, s1), (false, ys)) w) := by
  have H := Lib.hid (And.intro hx hy)
  have LL := Lib.hid (And.intro lx ly)
  have NN := Lib.hid hn
  obtain ⟨W0, hW0⟩ : ∃ W0, W0 = (w.alloc (.cells #[.bool na, .slice A0 xs.length c0, .bool nb, .slice A1 ys.length c1] 31)).alloc (.cells #[.bool false, .slice none 0 0, .bool false, .slice none 0 0] 31) := ⟨_, rfl⟩
  have HW := Lib.hid hW0
  have hS0 : Since w W0 := by rw [hW0]; exact ((Since.refl w).alloc _).alloc _
  have hbx : Hid (∀ W : World, Since W0 W → Bx W (w.heap.size) #[.bool na, .slice A0 xs.length c0, .bool nb, .slice A1 ys.length c1] 31 ∧ Bx W (w.heap.size + 1) #[.bool false, .slice none 0 0, .bool false, .slice none 0 0] 31) := fun W h => ⟨Bx.new ((since_alloc _ _).trans (hW0 ▸ h)) (by simp), Bx.new (hW0 ▸ h) (by simp)⟩
  clear hW0
  have hK := Since.refl W0
  clear hx hy lx ly hn
  go_enter Tryz.func48, Tryz.ntmps48
  go_wp2_with fail
  rw [← HW.out]
  obtain ⟨B0, B1⟩ := hbx.out _ hK; obtain ⟨k0a, k0b, k0c, k0d⟩ := B0.four; obtain ⟨r0a, r0b, r0c, r0d⟩ := B1.four; obtain ⟨f0a, f0b, f0c, f0d⟩ := B1.four'
  go_upto_region 2 with (first
    | (go_at_call 36; (with_reducible refine (neg_at A0 c0 na xs _ (H.out.1.since (hS0.trans hK)) (by have := LL.out; omega) NN.out).mono ?_); rintro e w1 ⟨X, x, rfl, rx, h⟩; have hK := hK.trans h))
  have hS := Since.refl W0
  obtain ⟨W1, hW1⟩ : ∃ W1, W1 = w1.alloc (.cells #[.bool n1, .slice X s1.length x] 29) := ⟨_, rfl⟩
  rw [← hW1]
  have hx : Since w1 W1 := by rw [hW1]; exact since_alloc _ _
  have hg := hK.trans hx
  have qbW1 : w.heap.size + 1 < w1.heap.size := (hbx.out _ (hS.trans hK)).2.lt
  have Vn : Hid (∀ W', Since W1 W' → Bx W' (w1.heap.size) #[.bool n1, .slice X s1.length x] 29) := fun W' h => Bx.new (hW1 ▸ h) (by simp)
  have rx := rx.since hx
  have hS := hS.trans hg
  clear hW1 hx hg hK
  generalize w1.heap.size = bkW1 at *
  have hK := Since.refl W1
  have hB := hK
  have hall : Hid (∀ W : World, Since W1 W → W.cell? ⟨w.heap.size, 0, none⟩ = some (.bool na) ∧ W.cell? ⟨w.heap.size, 1, none⟩ = some (.slice A0 xs.length c0) ∧ W.cell? ⟨w.heap.size, 2, none⟩ = some (.bool nb) ∧ W.cell? ⟨w.heap.size, 3, none⟩ = some (.slice A1 ys.length c1) ∧ W.cell? ⟨bkW1, 0, none⟩ = some (.bool n1) ∧ W.cell? ⟨bkW1, 1, none⟩ = some (.slice X s1.length x)) := fun W h => by
    obtain ⟨B0, B1⟩ := hbx.out _ (hS.trans h)
    obtain ⟨k0a, k0b, k0c, k0d⟩ := B0.four
    obtain ⟨vna, vnb⟩ := (Vn.out _ h).two
    exact ⟨k0a, k0b, k0c, k0d, vna, vnb⟩
  have hr0 : Since W1 W1.drew := Since.drew (Since.refl W1)
  have rx := rx.since hr0
  refine wp_region_noPanic ?_
  refine Reg.wp_region_G (S := fun W => W.cell? ⟨w.heap.size, 0, none⟩ = some (.bool na) ∧ W.cell? ⟨w.heap.size, 1, none⟩ = some (.slice A0 xs.length c0) ∧ W.cell? ⟨w.heap.size, 2, none⟩ = some (.bool nb) ∧ W.cell? ⟨w.heap.size, 3, none⟩ = some (.slice A1 ys.length c1) ∧ W.cell? ⟨bkW1, 0, none⟩ = some (.bool n1) ∧ W.cell? ⟨bkW1, 1, none⟩ = some (.slice X s1.length x)) (fun j => [7].contains j) (by kernel_rfl) ?_ ?_
  · exact hall.out _ hr0
  refine' Reg.wpG_take (i := 0) (oi := { dst := some 11, op := Op.load 29 (Operand.tmp 3), type := 29, pos := "ratio.go:101", after := #[], guard := none }) (v := _) [6, 7] [7] rfl rfl (by kernel_rfl) (by kernel_rfl) (by kernel_rfl) (by kernel_rfl) (by kernel_rfl) (by kernel_rfl) (by kernel_rfl) (fun _ _ _ h => h) (Or.inl ⟨by rfl, Or.inl ?hy2⟩) ?rest2
  case hy2 => (intro w' kk ss; (try dsimp only at ss); go_simp; first | done | with_reducible rfl)
  try simp only [Act.put, List.setIfInBounds_toArray, List.set_cons_zero, List.set_cons_succ]
  refine' Reg.wpG_take (i := 1) (oi := { dst := some 12, op := Op.fieldAddr 31 (Operand.tmp 1) 1, type := 0, pos := "ratio.go:101", after := #[], guard := none }) (v := _) [2, 3, 4, 5, 6, 7] [7] rfl rfl (by kernel_rfl) (by kernel_rfl) (by kernel_rfl) (by kernel_rfl) (by kernel_rfl) (by kernel_rfl) (by kernel_rfl) (fun _ _ _ h => h) (Or.inl ⟨by rfl, Or.inl ?hy3⟩) ?rest3
  case hy3 => (intro w' kk ss; (try dsimp only at ss); go_simp; first | done | with_reducible rfl)
  try simp only [Act.put, List.setIfInBounds_toArray, List.set_cons_zero, List.set_cons_succ]
  refine' Reg.wpG_take (i := 2) (oi := { dst := some 13, op := Op.fieldAddr 29 (Operand.tmp 12) 1, type := 0, pos := "ratio.go:101", after := #[{ on := 1, ground := Ground.data }], guard := none }) (v := _) [3, 4, 5, 6, 7] [7] rfl rfl (by kernel_rfl) (by kernel_rfl) (by kernel_rfl) (by kernel_rfl) (by kernel_rfl) (by kernel_rfl) (by kernel_rfl) (fun _ _ _ h => h) (Or.inl ⟨by rfl, Or.inl ?hy4⟩) ?rest4
  case hy4 => (intro w' kk ss; (try dsimp only at ss); go_simp; first | done | with_reducible rfl)
  try simp only [Act.put, List.setIfInBounds_toArray, List.set_cons_zero, List.set_cons_succ]
  refine' Reg.wpG_take (i := 3) (oi := { dst := some 14, op := Op.load 22 (Operand.tmp 13), type := 22, pos := "ratio.go:101", after := #[{ on := 2, ground := Ground.data }], guard := none }) (v := _) [4, 5, 6, 7] [7] rfl rfl (by kernel_rfl) (by kernel_rfl) (by kernel_rfl) (by kernel_rfl) (by kernel_rfl) (by kernel_rfl) (by kernel_rfl) (fun _ _ _ h => h) (Or.inl ⟨by rfl, Or.inl ?hy5⟩) ?rest5
  case hy5 => (intro w' kk ss; (try dsimp only at ss); go_simp; first | done | with_reducible rfl)
  try simp only [Act.put, List.setIfInBounds_toArray, List.set_cons_zero, List.set_cons_succ]
  refine Reg.wpG_ready (rs := [4]) (by kernel_rfl) (by simp) (fun wq1001 k1001' sq1001 => ?_)
  have hr0 := hr0.trans k1001'
  have rx := rx.since k1001'
  refine Reg.AllG.first (o := { dst := some 15, op := Op.call { callee := Callee.value (Operand.func 67), args := #[Operand.tmp 14], argTypes := #[22] }, type := 22, pos := "ratio.go:101", after := #[{ on := 3, ground := Ground.data }], guard := none }) rfl (by rfl) (fun K hK => ?_) Reg.AllG.nil
  have sq := hall.out _ hr0
  go_simp
  (with_reducible refine (Sg03.clone_any (.slice A1 ys.length c1) ys wq1001 (H.out.2.since (hS0.trans (hS.trans hr0))) (by have := LL.out; omega)).mono ?_)
  rintro e y1001 ⟨Y, y, rfl, ry, hx⟩
  refine hK.out _ _ ?_ hx ?_
  · exact hall.out _ (hr0.trans hx)
  clear hK K sq
  have hr0 := hr0.trans hx
  have rx := rx.since hx
  clear hx
  try simp only [Act.put, List.setIfInBounds_toArray, List.set_cons_zero, List.set_cons_succ]
  refine' Reg.wpG_take (i := 5) (oi := { dst := some 16, op := Op.build 29 #[(1, Operand.tmp 15)], type := 29, pos := "ratio.go:101", after := #[{ on := 4, ground := Ground.data }], guard := none }) (v := _) [6, 7] [7] rfl rfl (by kernel_rfl) (by kernel_rfl) (by kernel_rfl) (by kernel_rfl) (by kernel_rfl) (by kernel_rfl) (by kernel_rfl) (fun _ _ _ h => h) (Or.inl ⟨by rfl, Or.inl ?hy6⟩) ?rest6
  case hy6 => (intro w' kk ss; (try dsimp only at ss); go_simp; first | done | with_reducible rfl)
  try simp only [Act.put, List.setIfInBounds_toArray, List.set_cons_zero, List.set_cons_succ]
  refine' Reg.wpG_take (i := 6) (oi := { dst := some 17, op := Op.build 31 #[(0, Operand.tmp 11), (1, Operand.tmp 16)], type := 31, pos := "ratio.go:101", after := #[{ on := 0, ground := Ground.data }, { on := 5, ground := Ground.data }], guard := none }) (v := _) [7] [7] rfl rfl (by kernel_rfl) (by kernel_rfl) (by kernel_rfl) (by kernel_rfl) (by kernel_rfl) (by kernel_rfl) (by kernel_rfl) (fun _ _ _ h => h) (Or.inl ⟨by rfl, Or.inl ?hy7⟩) ?rest7
  case hy7 => (intro w' kk ss; (try dsimp only at ss); go_simp; first | done | with_reducible rfl)
  try simp only [Act.put, List.setIfInBounds_toArray, List.set_cons_zero, List.set_cons_succ]
  refine Reg.wpG_ready (rs := [7]) (by kernel_rfl) (by simp) (fun wq k1002' sq => ?_)
  have hr0 := hr0.trans k1002'
  have rx := rx.since k1002'
  have ry := ry.since k1002'
  refine Reg.AllG.last (o := { dst := none, op := Op.store 31 (Operand.tmp 2) (Operand.tmp 17), type := 0, pos := "ratio.go:101", after := #[{ on := 6, ground := Ground.data }, { on := 4, ground := Ground.chain }, { on := 0, ground := Ground.phase }, { on := 1, ground := Ground.phase }, { on := 2, ground := Ground.phase }, { on := 3, ground := Ground.phase }, { on := 4, ground := Ground.phase }, { on := 5, ground := Ground.phase }, { on := 6, ground := Ground.phase }], guard := none }) rfl (by rfl) (fun K hK => ?_) Reg.AllG.nil
  obtain ⟨B0, gr⟩ := hbx.out _ (hS.trans hr0)
  obtain ⟨k0a, k0b, k0c, k0d⟩ := B0.four
  obtain ⟨vna, vnb⟩ := (Vn.out _ hr0).two
  obtain ⟨r0a, r0b, r0c, r0d⟩ := gr.four
  obtain ⟨f0a, f0b, f0c, f0d⟩ := gr.four'
  have nq1 : bkW1 ≠ w.heap.size + 1 := by omega
  have nq2 : w.heap.size + 1 ≠ bkW1 := by omega
  go_simp
  refine hK.out _ _ ?_ (fun hHeld => ?_)
  · refine ⟨?_, ?_, ?_, ?_, ?_, ?_⟩ <;> go_simp
  clear hK K
  try simp only [Act.put, List.setIfInBounds_toArray, List.set_cons_zero, List.set_cons_succ]
  refine wpAnyH_done (by kernel_rfl) ?_ _
  refine NoPanic.normal ?_
  go_wp2_with fail
  refine bodyPost_ret (v := .agg #[.bool n1, .slice X s1.length x, .bool false, .slice Y ys.length y]) ?_ rfl ?_
  · simp [results, Tryz.results48, go_sem, r0a, r0b, r0c, r0d]
  · exact ⟨_, _, _, _, rfl, gr.rowsR rx (put4_far _ _ _ _ _ _), gr.rowsR ry (put4_far _ _ _ _ _ _), since_put4 (hS0.trans (hS.trans hr0)) (by omega) _ _ _ _⟩
end Go.Proofs.YtbbemgeinlehmaaGreatDoor.Sr04
