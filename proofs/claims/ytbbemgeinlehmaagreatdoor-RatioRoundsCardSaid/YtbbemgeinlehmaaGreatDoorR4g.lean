/- What the document's own Ceil of layer 4 gives back. -/
import Derived.Test.YtbbemgeinlehmaaGreatDoorQc
import Derived.Test.YtbbemgeinlehmaaGreatDoorRb
import Derived.Deep.DeepCutAuto
namespace Go.Proofs.YtbbemgeinlehmaaGreatDoor.Ref04
open Go.RowKit
set_option linter.unusedVariables false
open Go.Proofs.YtbbemgeinlehmaaGreatDoor.Dig Go.Proofs.YtbbemgeinlehmaaGreatDoor.R4 Go.Proofs.YtbbemgeinlehmaaGreatDoor.Fr
open Go.Proofs.YtbbemgeinlehmaaGreatDoor.Ref03 (sv srightB gcdZ divZ negZ mulZ addZ cmpZ textZ sval ngB mag RetZ RetQR RetS)

set_option maxRecDepth 100000 in
set_option maxHeartbeats 4000000 in
theorem ceil_any (A0 A1 : Option Addr) (c0 c1 : Nat) (na nb : Bool) (xs ys : List Nat) (w : World) (hx : Row w (.slice A0 xs.length c0) xs) (hy : Row w (.slice A1 ys.length c1) ys) (lx : xs.length ≤ 1000) (ly : ys.length ≤ 1000) :
    Calls Tryz.prog 27 #[.agg #[.bool na, .slice A0 xs.length c0, .bool nb, .slice A1 ys.length c1]] w (RetN (ceilR ((na, xs), (nb, ys))) w) := by
  have H := Lib.hid (And.intro hx hy)
  have LL := Lib.hid (And.intro lx ly)
  obtain ⟨W0, hW0⟩ : ∃ W0, W0 = (w.alloc (.cells #[.bool na, .slice A0 xs.length c0, .bool nb, .slice A1 ys.length c1] 26)).alloc (.cells #[.bool false, .slice none 0 0] 24) := ⟨_, rfl⟩
  have HW := Lib.hid hW0
  have hS0 : Since w W0 := by rw [hW0]; exact ((Since.refl w).alloc _).alloc _
  have hbx : Hid (∀ W : World, Since W0 W → Bx W (w.heap.size) #[.bool na, .slice A0 xs.length c0, .bool nb, .slice A1 ys.length c1] 26 ∧ Bx W (w.heap.size + 1) #[.bool false, .slice none 0 0] 24) := fun W h => ⟨Bx.new ((since_alloc _ _).trans (hW0 ▸ h)) (by simp), Bx.new (hW0 ▸ h) (by simp)⟩
  clear hW0
  have hK := Since.refl W0
  clear hx hy lx ly
  by_cases rr : rrB ((na, xs), (nb, ys)) = true
  rotate_left
  · have FN := Lib.hid (show ceilR ((na, xs), (nb, ys)) = ((false, []), 2) from if_neg rr)
    have RR := Lib.hid (show rrB ((na, xs), (nb, ys)) = false by simpa using rr)
    clear rr
    go_enter Tryz.func27, Tryz.ntmps27
    go_wp2_with fail
    rw [← HW.out]
    obtain ⟨B0, B1⟩ := hbx.out _ hK; obtain ⟨k0a, k0b, k0c, k0d⟩ := B0.four; obtain ⟨r0a, r0b⟩ := B1.two; obtain ⟨f0a, f0b⟩ := B1.two'
    go_wp2_with (first
      | (go_at_call 31; (with_reducible refine (right_any A0 A1 c0 c1 na nb xs ys _ (H.out.1.since (hS0.trans hK)) (H.out.2.since (hS0.trans hK)) (by have := LL.out; omega) (by have := LL.out; omega)).mono ?_); rw [RR.out]; rintro e w1 ⟨rfl, h⟩; have hK := hK.trans h; obtain ⟨B0, B1⟩ := hbx.out _ hK; obtain ⟨k0a, k0b, k0c, k0d⟩ := B0.four; obtain ⟨r0a, r0b⟩ := B1.two; obtain ⟨f0a, f0b⟩ := B1.two'))
    have gr := (hbx.out _ hK).2
    obtain ⟨r0a, r0b⟩ := gr.two
    obtain ⟨f0a, f0b⟩ := gr.two'
    refine bodyPost_ret (v := .tuple #[.agg #[.bool false, .slice none 0 0], .int .i64 2]) ?_ rfl ?_
    · simp [results, Tryz.results27, go_sem, r0a, r0b]
    · rw [FN.out]; exact ⟨_, _, rfl, gr.rowsI (Row.nil _) (put2_far _ _ _ _), since_put2 (hS0.trans hK) (by omega) _ _⟩
  have RR := Lib.hid rr
  have DD := Lib.hid (div_fl rr)
  have hp := (rr_low H.out.1.dig H.out.2.dig rr).1.1
  have CP := ceil_parts (n := sval na xs) (d := sval nb ys) hp
  have UQ := Lib.hid (und_len ((und_fdiv (n := sval na xs) (d := sval nb ys) hp (und_of (rr_low H.out.1.dig H.out.2.dig rr).2.2.1)).up (j := 66) (by omega)))
  have FN0 : ceilR ((na, xs), (nb, ys)) = (pz (ceilF (sval na xs) (sval nb ys)), 0) := if_pos rr
  rw [CP] at FN0
  clear CP hp rr
  obtain ⟨q, hq⟩ : ∃ q, q = (sval na xs).fdiv (sval nb ys) := ⟨_, rfl⟩
  obtain ⟨m, hm⟩ : ∃ m, m = (sval na xs).fmod (sval nb ys) := ⟨_, rfl⟩
  rw [← hq, ← hm] at DD FN0
  rw [← hq] at UQ
  clear hq hm
  have FH := Lib.hid FN0
  clear FN0
  go_enter Tryz.func27, Tryz.ntmps27
  go_wp2_with fail
  rw [← HW.out]
  obtain ⟨B0, B1⟩ := hbx.out _ hK; obtain ⟨k0a, k0b, k0c, k0d⟩ := B0.four; obtain ⟨r0a, r0b⟩ := B1.two; obtain ⟨f0a, f0b⟩ := B1.two'
  go_upto_region 4 with (first
    | (go_at_call 31; (with_reducible refine (right_any A0 A1 c0 c1 na nb xs ys _ (H.out.1.since (hS0.trans hK)) (H.out.2.since (hS0.trans hK)) (by have := LL.out; omega) (by have := LL.out; omega)).mono ?_); rw [RR.out]; rintro e w1 ⟨rfl, h⟩; have hK := hK.trans h; obtain ⟨B0, B1⟩ := hbx.out _ hK; obtain ⟨k0a, k0b, k0c, k0d⟩ := B0.four; obtain ⟨r0a, r0b⟩ := B1.two; obtain ⟨f0a, f0b⟩ := B1.two')
    | (go_at_call 54; (with_reducible refine (div_at A0 A1 c0 c1 na nb xs ys _ (H.out.1.since (hS0.trans hK)) (H.out.2.since (hS0.trans hK)) (by have := LL.out; omega) (by have := LL.out; omega) DD.out rfl).mono ?_); rintro e w2 ⟨X, x, Y, y, rfl, rx, ry, h⟩; have hK := hK.trans h))
  have hS := Since.refl W0
  obtain ⟨W2, hW2⟩ : ∃ W2, W2 = (w2.alloc (.cells #[.bool (ngB q), .slice X (mag q).length x] 24)).alloc (.cells #[.bool (ngB m), .slice Y (mag m).length y] 24) := ⟨_, rfl⟩
  rw [← hW2]
  have hx : Since w2 W2 := by rw [hW2]; exact (since_alloc _ _).trans (since_alloc _ _)
  have hg := hK.trans hx
  have qbW2 : w.heap.size + 1 < w2.heap.size := (hbx.out _ (hS.trans hK)).2.lt
  have Vn : Hid (∀ W', Since W2 W' → Bx W' (w2.heap.size) #[.bool (ngB q), .slice X (mag q).length x] 24) := fun W' h => Bx.new ((since_alloc _ _).trans (hW2 ▸ h)) (by simp)
  have Vm : Hid (∀ W', Since W2 W' → Bx W' (w2.heap.size + 1) #[.bool (ngB m), .slice Y (mag m).length y] 24) := fun W' h => Bx.new (hW2 ▸ h) (by simp)
  have rx := rx.since hx
  have hS := hS.trans hg
  clear hW2 hx hg hK
  generalize w2.heap.size = bkW2 at *
  have hK := Since.refl W2
  obtain ⟨B0, gr⟩ := hbx.out _ (hS.trans hK)
  obtain ⟨r0a, r0b⟩ := gr.two
  obtain ⟨f0a, f0b⟩ := gr.two'
  obtain ⟨vna, vnb⟩ := (Vn.out _ hK).two
  obtain ⟨vma, vmb⟩ := (Vm.out _ hK).two
  by_cases h0 : m = 0
  · have FN := Lib.hid (FH.out.trans (by rw [if_pos h0]))
    have hm0 : (mag m).length = 0 := by rw [h0]; rfl
    have hz : decide ((0 : Int) < ((mag m).length : Int)) = false := by rw [decide_eq_false_iff_not]; omega
    have hz' : decide (0 < (mag m).length) = false := by rw [decide_eq_false_iff_not]; omega
    clear hm0
    clear h0
    go_wp2_with fail
    obtain ⟨r0a, r0b⟩ := gr.two
    obtain ⟨f0a, f0b⟩ := gr.two'
    refine bodyPost_ret (v := .tuple #[.agg #[.bool (ngB q), .slice X (mag q).length x], .int .i64 0]) ?_ rfl ?_
    · simp [results, Tryz.results27, go_sem, r0a, r0b]
    · rw [FN.out]; exact ⟨_, _, rfl, gr.rowsI rx (put2_far _ _ _ _), since_put2 (hS0.trans (hS.trans hK)) (by omega) _ _⟩
  have FN := Lib.hid (FH.out.trans (by rw [if_neg h0]))
  have hz : decide ((0 : Int) < ((mag m).length : Int)) = true := by rw [decide_eq_true_iff]; have := mag_ne h0; omega
  have hz' : decide (0 < (mag m).length) = true := by rw [decide_eq_true_iff]; have := mag_ne h0; omega
  clear h0
  go_upto_region 5 with fail
  have hB := hK
  have hall : Hid (∀ W : World, Since W2 W → W.cell? ⟨bkW2, 0, none⟩ = some (.bool (ngB q)) ∧ W.cell? ⟨bkW2, 1, none⟩ = some (.slice X (mag q).length x)) := fun W h => (Vn.out _ h).two
  have hr0 : Since W2 W2.drew := Since.drew (Since.refl W2)
  have rx := rx.since hr0
  refine wp_region_noPanic ?_
  refine Reg.wp_region_G (S := fun W => W.cell? ⟨bkW2, 0, none⟩ = some (.bool (ngB q)) ∧ W.cell? ⟨bkW2, 1, none⟩ = some (.slice X (mag q).length x)) (fun j => [3, 4].contains j) (by kernel_rfl) ?_ ?_
  · exact hall.out _ hr0
  refine' Reg.wpG_take (i := 0) (oi := { dst := some 24, op := Op.load 24 (Operand.tmp 4), type := 24, pos := "ref.go:115", after := #[], guard := none }) (v := _) [2, 3, 4] [3, 4] rfl rfl (by kernel_rfl) (by kernel_rfl) (by kernel_rfl) (by kernel_rfl) (by kernel_rfl) (by kernel_rfl) (by kernel_rfl) (fun _ _ _ h => h) (Or.inl ⟨by rfl, Or.inl ?hy2⟩) ?rest2
  case hy2 => (intro w' kk ss; (try dsimp only at ss); go_simp; first | done | with_reducible rfl)
  try simp only [Act.put, List.setIfInBounds_toArray, List.set_cons_zero, List.set_cons_succ]
  refine Reg.wpG_ready (rs := [1]) (by kernel_rfl) (by simp) (fun wq1001 k1001' sq1001 => ?_)
  have hr0 := hr0.trans k1001'
  have rx := rx.since k1001'
  refine Reg.AllG.first (o := { dst := some 25, op := Op.call { callee := Callee.value (Operand.func 55), args := #[Operand.const (Value.int IntKind.i64 1)], argTypes := #[2] }, type := 24, pos := "ref.go:115", after := #[], guard := none }) rfl (by rfl) (fun K hK => ?_) Reg.AllG.nil
  have sq := hall.out _ hr0
  go_simp
  (with_reducible refine (Ref03.of_any 1 wq1001 (by omega)).mono ?_)
  rintro e y1001 ⟨O, o', rfl, ro, hx⟩
  refine hK.out _ _ ?_ hx ?_
  · exact hall.out _ (hr0.trans hx)
  clear hK K sq
  have hr0 := hr0.trans hx
  have rx := rx.since hx
  clear hx
  try simp only [Act.put, List.setIfInBounds_toArray, List.set_cons_zero, List.set_cons_succ]
  refine Reg.wpG_ready (rs := [2]) (by kernel_rfl) (by simp) (fun wq1002 k1002' sq1002 => ?_)
  have hr0 := hr0.trans k1002'
  have rx := rx.since k1002'
  have ro := ro.since k1002'
  refine Reg.AllG.first (o := { dst := some 26, op := Op.call { callee := Callee.value (Operand.func 46), args := #[Operand.tmp 24, Operand.tmp 25], argTypes := #[24, 24] }, type := 24, pos := "ref.go:115", after := #[{ on := 0, ground := Ground.data }, { on := 1, ground := Ground.data }, { on := 1, ground := Ground.chain }], guard := none }) rfl (by rfl) (fun K hK => ?_) Reg.AllG.nil
  have sq := hall.out _ hr0
  go_simp
  (with_reducible refine (sum_at X O x o' q 1 wq1002 rx ro (by have := UQ.out; omega) (by decide) rfl).mono ?_)
  rintro e y1002 ⟨Z, z, rfl, rz, hx⟩
  refine hK.out _ _ ?_ hx ?_
  · exact hall.out _ (hr0.trans hx)
  clear hK K sq
  have hr0 := hr0.trans hx
  have rx := rx.since hx
  have ro := ro.since hx
  clear hx
  try simp only [Act.put, List.setIfInBounds_toArray, List.set_cons_zero, List.set_cons_succ]
  refine Reg.wpG_ready (rs := [3]) (by kernel_rfl) (by simp) (fun wq k1003' sq => ?_)
  have hr0 := hr0.trans k1003'
  have rx := rx.since k1003'
  have ro := ro.since k1003'
  have rz := rz.since k1003'
  refine Reg.AllG.last (o := { dst := none, op := Op.store 24 (Operand.tmp 2) (Operand.tmp 26), type := 0, pos := "ref.go:115", after := #[{ on := 2, ground := Ground.data }, { on := 2, ground := Ground.chain }, { on := 0, ground := Ground.phase }, { on := 1, ground := Ground.phase }, { on := 2, ground := Ground.phase }], guard := none }) rfl (by rfl) (fun K hK => ?_) Reg.AllG.nil
  have gr := (hbx.out _ (hS.trans hr0)).2
  obtain ⟨r0a, r0b⟩ := gr.two
  obtain ⟨f0a, f0b⟩ := gr.two'
  obtain ⟨vna, vnb⟩ := (Vn.out _ hr0).two
  have nq1 : bkW2 ≠ w.heap.size + 1 := by omega
  have nq2 : w.heap.size + 1 ≠ bkW2 := by omega
  go_simp
  refine hK.out _ _ ?_ (fun hHeld => ?_)
  · refine ⟨?_, ?_⟩ <;> go_simp
  clear hK K
  try simp only [Act.put, List.setIfInBounds_toArray, List.set_cons_zero, List.set_cons_succ]
  refine' wpAnyH_take (i := 4) (oi := { dst := some 3, op := Op.assign (Operand.const (Value.int IntKind.i64 0)), type := 3, pos := "ref.go:115", after := #[{ on := 3, ground := Ground.chain }, { on := 0, ground := Ground.phase }, { on := 1, ground := Ground.phase }, { on := 2, ground := Ground.phase }, { on := 3, ground := Ground.phase }], guard := none }) (v := _) rfl (by kernel_rfl) (by kernel_rfl) (by kernel_rfl) (fun _ _ _ h => h) (Or.inl ⟨by rfl, ?hy3⟩) (by assumption) ?rest3
  case hy3 => (intro w' ss; (try dsimp only at ss); go_simp; first | done | with_reducible rfl)
  try simp only [Act.put, List.setIfInBounds_toArray, List.set_cons_zero, List.set_cons_succ]
  refine wpAnyH_done (by kernel_rfl) ?_ _
  refine NoPanic.normal ?_
  go_wp2_with fail
  refine bodyPost_ret (v := .tuple #[.agg #[.bool (ngB (q + 1)), .slice Z (mag (q + 1)).length z], .int .i64 0]) ?_ rfl ?_
  · simp [results, Tryz.results27, go_sem, r0a, r0b]
  · rw [FN.out]; exact ⟨_, _, rfl, gr.rowsI rz (put2_far _ _ _ _), since_put2 (hS0.trans (hS.trans hr0)) (by omega) _ _⟩
end Go.Proofs.YtbbemgeinlehmaaGreatDoor.Ref04
