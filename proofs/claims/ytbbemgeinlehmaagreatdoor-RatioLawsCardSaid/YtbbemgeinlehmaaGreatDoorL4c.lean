/- What the closures of the law RatioLaws give back: a sum, a product, are two fractions one. -/
import Derived.Test.YtbbemgeinlehmaaGreatDoorL4a
import Derived.Test.YtbbemgeinlehmaaGreatDoorSr4ad
import Derived.Test.YtbbemgeinlehmaaGreatDoorSr4mu
import Derived.Test.YtbbemgeinlehmaaGreatDoorTa
import Derived.Test.YtbbemgeinlehmaaGreatDoorR4s
import Derived.Test.YtbbemgeinlehmaaGreatDoorRg
import Derived.Deep.DeepCutAuto
namespace Go.Proofs.YtbbemgeinlehmaaGreatDoor.Law04
open Go.RowKit
set_option linter.unusedVariables false
open Go.Proofs.YtbbemgeinlehmaaGreatDoor.Dig Go.Proofs.YtbbemgeinlehmaaGreatDoor.R4 Go.Proofs.YtbbemgeinlehmaaGreatDoor.Fr
open Go.Proofs.YtbbemgeinlehmaaGreatDoor.Ref03 (sv srightB gcdZ divZ negZ mulZ addZ cmpZ textZ sval ngB mag RetZ RetQR RetS)
set_option linter.unusedSimpArgs false
open Go.Proofs.YtbbemgeinlehmaaGreatDoor.Ref04

set_option maxRecDepth 100000 in
set_option maxHeartbeats 4000000 in
theorem addc_any (A0 A1 A2 A3 : Option Addr) (c0 c1 c2 c3 : Nat) (na nb nc nd : Bool) (xs ys us vs : List Nat) (w : World) (hx : Row w (.slice A0 xs.length c0) xs) (hy : Row w (.slice A1 ys.length c1) ys) (hu : Row w (.slice A2 us.length c2) us) (hv : Row w (.slice A3 vs.length c3) vs) (lx : xs.length ≤ 1000) (ly : ys.length ≤ 1000) (lu : us.length ≤ 1000) (lv : vs.length ≤ 1000) {n m : Bool} {s t : List Nat} (he : addR ((na, xs), (nb, ys)) ((nc, us), (nd, vs)) = (((n, s), (m, t)), 0)) :
    Calls Tryz.prog 32 #[.agg #[.bool na, .slice A0 xs.length c0, .bool nb, .slice A1 ys.length c1], .agg #[.bool nc, .slice A2 us.length c2, .bool nd, .slice A3 vs.length c3]] w fun e w' => ∃ X x Y y, e = .returned (.agg #[.bool n, .slice X s.length x, .bool m, .slice Y t.length y]) ∧ Row w' (.slice X s.length x) s ∧ Row w' (.slice Y t.length y) t ∧ Since w w' := by
  have HE := Lib.hid he
  clear he
  have H := Lib.hid (And.intro hx (And.intro hy (And.intro hu hv)))
  have LL := Lib.hid (And.intro lx (And.intro ly (And.intro lu lv)))
  clear hx hy hu hv lx ly lu lv
  obtain ⟨W0, hW0⟩ : ∃ W0, W0 = ((w.alloc (.cells #[.bool na, .slice A0 xs.length c0, .bool nb, .slice A1 ys.length c1] 31)).alloc (.cells #[.bool nc, .slice A2 us.length c2, .bool nd, .slice A3 vs.length c3] 31)).alloc (.cells #[.bool false, .slice none 0 0, .bool false, .slice none 0 0] 31) := ⟨_, rfl⟩
  have HW := Lib.hid hW0
  have hS0 : Since w W0 := by rw [hW0]; exact (((Since.refl w).alloc _).alloc _).alloc _
  have hbx : Hid (∀ W : World, Since W0 W → Bx W (w.heap.size) #[.bool na, .slice A0 xs.length c0, .bool nb, .slice A1 ys.length c1] 31 ∧ Bx W (w.heap.size + 1) #[.bool nc, .slice A2 us.length c2, .bool nd, .slice A3 vs.length c3] 31 ∧ Bx W (w.heap.size + 1 + 1) #[.bool false, .slice none 0 0, .bool false, .slice none 0 0] 31) := fun W h => ⟨Bx.new ((since_alloc _ _).trans ((since_alloc _ _).trans (hW0 ▸ h))) (by simp), Bx.new ((since_alloc _ _).trans (hW0 ▸ h)) (by simp), Bx.new (hW0 ▸ h) (by simp)⟩
  clear hW0
  have hK := Since.refl W0
  go_enter Tryz.func32, Tryz.ntmps32
  go_wp2_with fail
  rw [← HW.out]
  obtain ⟨B0, B1, B2⟩ := hbx.out _ hK; obtain ⟨k0a, k0b, k0c, k0d⟩ := B0.four; obtain ⟨k1a, k1b, k1c, k1d⟩ := B1.four; obtain ⟨r0a, r0b, r0c, r0d⟩ := B2.four; obtain ⟨f0a, f0b, f0c, f0d⟩ := B2.four'
  go_upto_region 2 with (first
    | (go_at_call 11; (with_reducible refine ((Sr04.add_any A0 A1 A2 A3 c0 c1 c2 c3 na nb nc nd xs ys us vs _ (H.out.1.since (hS0.trans hK)) (H.out.2.1.since (hS0.trans hK)) (H.out.2.2.1.since (hS0.trans hK)) (H.out.2.2.2.since (hS0.trans hK)) (by have := LL.out; omega) (by have := LL.out; omega) (by have := LL.out; omega) (by have := LL.out; omega)).mono fun _ _ h => RetF.at HE.out h).mono ?_); rintro e w1 ⟨X, x, Y, y, rfl, rx, ry, h⟩; have hK := hK.trans h))
  have hS := Since.refl W0
  obtain ⟨W1, hW1⟩ : ∃ W1, W1 = w1.alloc (.cells #[.bool n, .slice X s.length x, .bool m, .slice Y t.length y] 31) := ⟨_, rfl⟩
  rw [← hW1]
  have hx : Since w1 W1 := by rw [hW1]; exact since_alloc _ _
  have hg := hK.trans hx
  have qbW1 : w.heap.size + 1 + 1 < w1.heap.size := (hbx.out _ (hS.trans hK)).2.2.lt
  have Vs : Hid (∀ W', Since W1 W' → Bx W' (w1.heap.size) #[.bool n, .slice X s.length x, .bool m, .slice Y t.length y] 31) := fun W' h => Bx.new (hW1 ▸ h) (by simp)
  have rx := rx.since hx
  have ry := ry.since hx
  have hS := hS.trans hg
  clear hW1 hx hg hK
  generalize w1.heap.size = bkW1 at *
  have hK := Since.refl W1
  have gr := (hbx.out _ (hS.trans hK)).2.2
  obtain ⟨r0a, r0b, r0c, r0d⟩ := gr.four
  obtain ⟨f0a, f0b, f0c, f0d⟩ := gr.four'
  obtain ⟨vsa, vsb, vsc, vsd⟩ := (Vs.out _ hK).four
  go_wp2_with fail
  refine bodyPost_ret (v := .agg #[.bool n, .slice X s.length x, .bool m, .slice Y t.length y]) ?_ rfl ?_
  · simp [results, Tryz.results32, go_sem, r0a, r0b, r0c, r0d]
  · exact ⟨_, _, _, _, rfl, gr.rowsR rx (put4_far _ _ _ _ _ _), gr.rowsR ry (put4_far _ _ _ _ _ _), since_put4 (hS0.trans (hS.trans hK)) (by omega) _ _ _ _⟩
set_option maxRecDepth 100000 in
set_option maxHeartbeats 4000000 in
theorem mulc_any (A0 A1 A2 A3 : Option Addr) (c0 c1 c2 c3 : Nat) (na nb nc nd : Bool) (xs ys us vs : List Nat) (w : World) (hx : Row w (.slice A0 xs.length c0) xs) (hy : Row w (.slice A1 ys.length c1) ys) (hu : Row w (.slice A2 us.length c2) us) (hv : Row w (.slice A3 vs.length c3) vs) (lx : xs.length ≤ 1000) (ly : ys.length ≤ 1000) (lu : us.length ≤ 1000) (lv : vs.length ≤ 1000) {n m : Bool} {s t : List Nat} (he : mulR ((na, xs), (nb, ys)) ((nc, us), (nd, vs)) = (((n, s), (m, t)), 0)) :
    Calls Tryz.prog 33 #[.agg #[.bool na, .slice A0 xs.length c0, .bool nb, .slice A1 ys.length c1], .agg #[.bool nc, .slice A2 us.length c2, .bool nd, .slice A3 vs.length c3]] w fun e w' => ∃ X x Y y, e = .returned (.agg #[.bool n, .slice X s.length x, .bool m, .slice Y t.length y]) ∧ Row w' (.slice X s.length x) s ∧ Row w' (.slice Y t.length y) t ∧ Since w w' := by
  have HE := Lib.hid he
  clear he
  have H := Lib.hid (And.intro hx (And.intro hy (And.intro hu hv)))
  have LL := Lib.hid (And.intro lx (And.intro ly (And.intro lu lv)))
  clear hx hy hu hv lx ly lu lv
  obtain ⟨W0, hW0⟩ : ∃ W0, W0 = ((w.alloc (.cells #[.bool na, .slice A0 xs.length c0, .bool nb, .slice A1 ys.length c1] 31)).alloc (.cells #[.bool nc, .slice A2 us.length c2, .bool nd, .slice A3 vs.length c3] 31)).alloc (.cells #[.bool false, .slice none 0 0, .bool false, .slice none 0 0] 31) := ⟨_, rfl⟩
  have HW := Lib.hid hW0
  have hS0 : Since w W0 := by rw [hW0]; exact (((Since.refl w).alloc _).alloc _).alloc _
  have hbx : Hid (∀ W : World, Since W0 W → Bx W (w.heap.size) #[.bool na, .slice A0 xs.length c0, .bool nb, .slice A1 ys.length c1] 31 ∧ Bx W (w.heap.size + 1) #[.bool nc, .slice A2 us.length c2, .bool nd, .slice A3 vs.length c3] 31 ∧ Bx W (w.heap.size + 1 + 1) #[.bool false, .slice none 0 0, .bool false, .slice none 0 0] 31) := fun W h => ⟨Bx.new ((since_alloc _ _).trans ((since_alloc _ _).trans (hW0 ▸ h))) (by simp), Bx.new ((since_alloc _ _).trans (hW0 ▸ h)) (by simp), Bx.new (hW0 ▸ h) (by simp)⟩
  clear hW0
  have hK := Since.refl W0
  go_enter Tryz.func33, Tryz.ntmps33
  go_wp2_with fail
  rw [← HW.out]
  obtain ⟨B0, B1, B2⟩ := hbx.out _ hK; obtain ⟨k0a, k0b, k0c, k0d⟩ := B0.four; obtain ⟨k1a, k1b, k1c, k1d⟩ := B1.four; obtain ⟨r0a, r0b, r0c, r0d⟩ := B2.four; obtain ⟨f0a, f0b, f0c, f0d⟩ := B2.four'
  go_upto_region 2 with (first
    | (go_at_call 20; (with_reducible refine ((Sr04.mul_any A0 A1 A2 A3 c0 c1 c2 c3 na nb nc nd xs ys us vs _ (H.out.1.since (hS0.trans hK)) (H.out.2.1.since (hS0.trans hK)) (H.out.2.2.1.since (hS0.trans hK)) (H.out.2.2.2.since (hS0.trans hK)) (by have := LL.out; omega) (by have := LL.out; omega) (by have := LL.out; omega) (by have := LL.out; omega)).mono fun _ _ h => RetF.at HE.out h).mono ?_); rintro e w1 ⟨X, x, Y, y, rfl, rx, ry, h⟩; have hK := hK.trans h))
  have hS := Since.refl W0
  obtain ⟨W1, hW1⟩ : ∃ W1, W1 = w1.alloc (.cells #[.bool n, .slice X s.length x, .bool m, .slice Y t.length y] 31) := ⟨_, rfl⟩
  rw [← hW1]
  have hx : Since w1 W1 := by rw [hW1]; exact since_alloc _ _
  have hg := hK.trans hx
  have qbW1 : w.heap.size + 1 + 1 < w1.heap.size := (hbx.out _ (hS.trans hK)).2.2.lt
  have Vs : Hid (∀ W', Since W1 W' → Bx W' (w1.heap.size) #[.bool n, .slice X s.length x, .bool m, .slice Y t.length y] 31) := fun W' h => Bx.new (hW1 ▸ h) (by simp)
  have rx := rx.since hx
  have ry := ry.since hx
  have hS := hS.trans hg
  clear hW1 hx hg hK
  generalize w1.heap.size = bkW1 at *
  have hK := Since.refl W1
  have gr := (hbx.out _ (hS.trans hK)).2.2
  obtain ⟨r0a, r0b, r0c, r0d⟩ := gr.four
  obtain ⟨f0a, f0b, f0c, f0d⟩ := gr.four'
  obtain ⟨vsa, vsb, vsc, vsd⟩ := (Vs.out _ hK).four
  go_wp2_with fail
  refine bodyPost_ret (v := .agg #[.bool n, .slice X s.length x, .bool m, .slice Y t.length y]) ?_ rfl ?_
  · simp [results, Tryz.results33, go_sem, r0a, r0b, r0c, r0d]
  · exact ⟨_, _, _, _, rfl, gr.rowsR rx (put4_far _ _ _ _ _ _), gr.rowsR ry (put4_far _ _ _ _ _ _), since_put4 (hS0.trans (hS.trans hK)) (by omega) _ _ _ _⟩
theorem right_yes (A0 A1 : Option Addr) (c0 c1 : Nat) (na nb : Bool) (xs ys : List Nat) (w : World) (hx : Row w (.slice A0 xs.length c0) xs) (hy : Row w (.slice A1 ys.length c1) ys) (lx : xs.length ≤ 1000) (ly : ys.length ≤ 1000) (hr : rrB ((na, xs), (nb, ys)) = true) :
    Calls Tryz.prog 35 #[.agg #[.bool na, .slice A0 xs.length c0, .bool nb, .slice A1 ys.length c1]] w fun e w' => e = .returned (.bool true) ∧ Since w w' := by
  have k := Sr04.right_any A0 A1 c0 c1 na nb xs ys w hx hy lx ly
  rwa [hr] at k
theorem same_yes (A0 A1 A2 A3 : Option Addr) (c0 c1 c2 c3 : Nat) (na nb : Bool) (xs ys : List Nat) (w : World) (hx : Row w (.slice A0 xs.length c0) xs) (hy : Row w (.slice A1 ys.length c1) ys) (hu : Row w (.slice A2 xs.length c2) xs) (hv : Row w (.slice A3 ys.length c3) ys) (lx : xs.length ≤ 10000) (ly : ys.length ≤ 10000) :
    Calls Tryz.prog 18 #[.agg #[.bool na, .slice A0 xs.length c0, .bool nb, .slice A1 ys.length c1], .agg #[.bool na, .slice A2 xs.length c2, .bool nb, .slice A3 ys.length c3]] w fun e w' => e = .returned (.bool true) ∧ Since w w' := by
  have k := Ref04.same_any A0 A1 A2 A3 c0 c1 c2 c3 na nb na nb xs ys xs ys w hx hy hu hv lx ly lx ly
  rwa [sameF_self] at k
set_option maxRecDepth 100000 in
set_option maxHeartbeats 4000000 in
theorem samec_any (A0 A1 A2 A3 : Option Addr) (c0 c1 c2 c3 : Nat) (na nb : Bool) (xs ys : List Nat) (w : World) (hx : Row w (.slice A0 xs.length c0) xs) (hy : Row w (.slice A1 ys.length c1) ys) (hu : Row w (.slice A2 xs.length c2) xs) (hv : Row w (.slice A3 ys.length c3) ys) (lx : xs.length ≤ 1000) (ly : ys.length ≤ 1000) (hr : rrB ((na, xs), (nb, ys)) = true) :
    Calls Tryz.prog 34 #[.agg #[.bool na, .slice A0 xs.length c0, .bool nb, .slice A1 ys.length c1], .agg #[.bool na, .slice A2 xs.length c2, .bool nb, .slice A3 ys.length c3]] w fun e w' => e = .returned (.bool true) ∧ Since w w' := by
  have H := Lib.hid (And.intro hx (And.intro hy (And.intro hu hv)))
  have LL := Lib.hid (And.intro lx ly)
  have HR := Lib.hid hr
  clear hx hy hu hv lx ly hr
  obtain ⟨W0, hW0⟩ : ∃ W0, W0 = (w.alloc (.cells #[.bool na, .slice A0 xs.length c0, .bool nb, .slice A1 ys.length c1] 31)).alloc (.cells #[.bool na, .slice A2 xs.length c2, .bool nb, .slice A3 ys.length c3] 31) := ⟨_, rfl⟩
  have HW := Lib.hid hW0
  have hS0 : Since w W0 := by rw [hW0]; exact ((Since.refl w).alloc _).alloc _
  have hbx : Hid (∀ W : World, Since W0 W → Bx W (w.heap.size) #[.bool na, .slice A0 xs.length c0, .bool nb, .slice A1 ys.length c1] 31 ∧ Bx W (w.heap.size + 1) #[.bool na, .slice A2 xs.length c2, .bool nb, .slice A3 ys.length c3] 31) := fun W h => ⟨Bx.new ((since_alloc _ _).trans (hW0 ▸ h)) (by simp), Bx.new (hW0 ▸ h) (by simp)⟩
  clear hW0
  have hK := Since.refl W0
  go_enter Tryz.func34, Tryz.ntmps34
  go_upto_region 1 with fail
  rw [← HW.out]
  have hB := hK
  have hall : Hid (∀ W : World, Since W0 W → W.cell? ⟨w.heap.size, 0, none⟩ = some (.bool na) ∧ W.cell? ⟨w.heap.size, 1, none⟩ = some (.slice A0 xs.length c0) ∧ W.cell? ⟨w.heap.size, 2, none⟩ = some (.bool nb) ∧ W.cell? ⟨w.heap.size, 3, none⟩ = some (.slice A1 ys.length c1) ∧ W.cell? ⟨w.heap.size + 1, 0, none⟩ = some (.bool na) ∧ W.cell? ⟨w.heap.size + 1, 1, none⟩ = some (.slice A2 xs.length c2) ∧ W.cell? ⟨w.heap.size + 1, 2, none⟩ = some (.bool nb) ∧ W.cell? ⟨w.heap.size + 1, 3, none⟩ = some (.slice A3 ys.length c3)) := fun W h => by
    obtain ⟨B0, B1⟩ := hbx.out _ (hB.trans h)
    obtain ⟨k0a, k0b, k0c, k0d⟩ := B0.four
    obtain ⟨k1a, k1b, k1c, k1d⟩ := B1.four
    exact ⟨k0a, k0b, k0c, k0d, k1a, k1b, k1c, k1d⟩
  have hr0 : Since W0 W0.drew := Since.drew (Since.refl W0)
  refine wp_region_noPanic ?_
  refine Reg.wp_region_G (S := fun W => W.cell? ⟨w.heap.size, 0, none⟩ = some (.bool na) ∧ W.cell? ⟨w.heap.size, 1, none⟩ = some (.slice A0 xs.length c0) ∧ W.cell? ⟨w.heap.size, 2, none⟩ = some (.bool nb) ∧ W.cell? ⟨w.heap.size, 3, none⟩ = some (.slice A1 ys.length c1) ∧ W.cell? ⟨w.heap.size + 1, 0, none⟩ = some (.bool na) ∧ W.cell? ⟨w.heap.size + 1, 1, none⟩ = some (.slice A2 xs.length c2) ∧ W.cell? ⟨w.heap.size + 1, 2, none⟩ = some (.bool nb) ∧ W.cell? ⟨w.heap.size + 1, 3, none⟩ = some (.slice A3 ys.length c3)) (fun j => [].contains j) (by kernel_rfl) ?_ ?_
  · exact hall.out _ hr0
  refine' Reg.wpG_take (i := 0) (oi := { dst := some 5, op := Op.load 31 (Operand.tmp 2), type := 31, pos := "law.go:118", after := #[], guard := none }) (v := _) [1, 2, 3, 4, 5, 6, 7, 8, 9] [] rfl rfl (by kernel_rfl) (by kernel_rfl) (by kernel_rfl) (by kernel_rfl) (by kernel_rfl) (by kernel_rfl) (by kernel_rfl) (fun _ _ _ h => h) (Or.inl ⟨by rfl, Or.inl ?hy72⟩) ?rest72
  case hy72 => (intro w' kk ss; (try dsimp only at ss); go_simp; first | done | with_reducible rfl)
  try simp only [Act.put, List.setIfInBounds_toArray, List.set_cons_zero, List.set_cons_succ]
  refine Reg.wpG_take (i := 1) (oi := { dst := some 6, op := Op.call { callee := Callee.value (Operand.func 35), args := #[Operand.tmp 5], argTypes := #[31] }, type := 4, pos := "law.go:118", after := #[{ on := 0, ground := Ground.data }], guard := none }) (v := .bool true) [2, 3, 4, 5, 6, 7, 8, 9] [] rfl rfl (by kernel_rfl) (by kernel_rfl) (by kernel_rfl) (by kernel_rfl) (by kernel_rfl) (by kernel_rfl) (by kernel_rfl) (fun _ _ _ h => h) (Or.inl ⟨by rfl, Or.inr ⟨35, #[.agg #[.bool na, .slice A0 xs.length c0, .bool nb, .slice A1 ys.length c1]], fun w' kk ss => ⟨?_, ?_⟩⟩⟩) ?_
  · (try dsimp only at ss); go_simp
  · exact (right_yes A0 A1 c0 c1 na nb xs ys w' (H.out.1.since (hS0.trans (hr0.trans kk))) (H.out.2.1.since (hS0.trans (hr0.trans kk))) (by have := LL.out; omega) (by have := LL.out; omega) HR.out).mono fun e w'' h => ⟨h.1, h.2, hall.out _ (hr0.trans (kk.trans h.2))⟩
  try simp only [Act.put, List.setIfInBounds_toArray, List.set_cons_zero, List.set_cons_succ]
  refine' Reg.wpG_take (i := 2) (oi := { dst := some 7, op := Op.move (Operand.tmp 6), type := 4, pos := "law.go:118", after := #[{ on := 1, ground := Ground.data }, { on := 1, ground := Ground.chain }], guard := none }) (v := _) [3, 4, 5, 6, 7, 8, 9] [] rfl rfl (by kernel_rfl) (by kernel_rfl) (by kernel_rfl) (by kernel_rfl) (by kernel_rfl) (by kernel_rfl) (by kernel_rfl) (fun _ _ _ h => h) (Or.inl ⟨by rfl, Or.inl ?hy73⟩) ?rest73
  case hy73 => (intro w' kk ss; (try dsimp only at ss); go_simp; first | done | with_reducible rfl)
  try simp only [Act.put, List.setIfInBounds_toArray, List.set_cons_zero, List.set_cons_succ]
  refine' Reg.wpG_take (i := 3) (oi := { dst := some 8, op := Op.load 31 (Operand.tmp 2), type := 31, pos := "law.go:118", after := #[{ on := 2, ground := Ground.guard }], guard := some (2, true) }) (v := _) [4, 6, 7, 8, 9] [] rfl rfl (by kernel_rfl) (by kernel_rfl) (by kernel_rfl) (by kernel_rfl) (by kernel_rfl) (by kernel_rfl) (by kernel_rfl) (fun _ _ _ h => h) (Or.inl ⟨by rfl, Or.inl ?hy74⟩) ?rest74
  case hy74 => (intro w' kk ss; (try dsimp only at ss); go_simp; first | done | with_reducible rfl)
  try simp only [Act.put, List.setIfInBounds_toArray, List.set_cons_zero, List.set_cons_succ]
  refine Reg.wpG_take (i := 4) (oi := { dst := some 9, op := Op.call { callee := Callee.value (Operand.func 19), args := #[Operand.tmp 8], argTypes := #[31] }, type := 26, pos := "law.go:118", after := #[{ on := 3, ground := Ground.data }, { on := 2, ground := Ground.chain }, { on := 2, ground := Ground.guard }], guard := some (2, true) }) (v := .agg #[.bool na, .slice A0 xs.length c0, .bool nb, .slice A1 ys.length c1]) [6, 7, 8, 9] [] rfl rfl (by kernel_rfl) (by kernel_rfl) (by kernel_rfl) (by kernel_rfl) (by kernel_rfl) (by kernel_rfl) (by kernel_rfl) (fun _ _ _ h => h) (Or.inl ⟨by rfl, Or.inr ⟨19, #[.agg #[.bool na, .slice A0 xs.length c0, .bool nb, .slice A1 ys.length c1]], fun w' kk ss => ⟨?_, ?_⟩⟩⟩) ?_
  · (try dsimp only at ss); go_simp
  · exact (ours_any A0 A1 xs.length c0 ys.length c1 na nb w').mono fun e w'' h => ⟨h.1, h.2, hall.out _ (hr0.trans (kk.trans h.2))⟩
  try simp only [Act.put, List.setIfInBounds_toArray, List.set_cons_zero, List.set_cons_succ]
  refine' Reg.wpG_take (i := 5) (oi := { dst := some 10, op := Op.load 31 (Operand.tmp 3), type := 31, pos := "law.go:118", after := #[{ on := 2, ground := Ground.guard }], guard := some (2, true) }) (v := _) [6, 7, 8, 9] [] rfl rfl (by kernel_rfl) (by kernel_rfl) (by kernel_rfl) (by kernel_rfl) (by kernel_rfl) (by kernel_rfl) (by kernel_rfl) (fun _ _ _ h => h) (Or.inl ⟨by rfl, Or.inl ?hy75⟩) ?rest75
  case hy75 => (intro w' kk ss; (try dsimp only at ss); go_simp; first | done | with_reducible rfl)
  try simp only [Act.put, List.setIfInBounds_toArray, List.set_cons_zero, List.set_cons_succ]
  refine Reg.wpG_take (i := 6) (oi := { dst := some 11, op := Op.call { callee := Callee.value (Operand.func 19), args := #[Operand.tmp 10], argTypes := #[31] }, type := 26, pos := "law.go:118", after := #[{ on := 5, ground := Ground.data }, { on := 4, ground := Ground.chain }, { on := 2, ground := Ground.guard }], guard := some (2, true) }) (v := .agg #[.bool na, .slice A2 xs.length c2, .bool nb, .slice A3 ys.length c3]) [7, 8, 9] [] rfl rfl (by kernel_rfl) (by kernel_rfl) (by kernel_rfl) (by kernel_rfl) (by kernel_rfl) (by kernel_rfl) (by kernel_rfl) (fun _ _ _ h => h) (Or.inl ⟨by rfl, Or.inr ⟨19, #[.agg #[.bool na, .slice A2 xs.length c2, .bool nb, .slice A3 ys.length c3]], fun w' kk ss => ⟨?_, ?_⟩⟩⟩) ?_
  · (try dsimp only at ss); go_simp
  · exact (ours_any A2 A3 xs.length c2 ys.length c3 na nb w').mono fun e w'' h => ⟨h.1, h.2, hall.out _ (hr0.trans (kk.trans h.2))⟩
  try simp only [Act.put, List.setIfInBounds_toArray, List.set_cons_zero, List.set_cons_succ]
  refine Reg.wpG_take (i := 7) (oi := { dst := some 12, op := Op.call { callee := Callee.value (Operand.func 18), args := #[Operand.tmp 9, Operand.tmp 11], argTypes := #[26, 26] }, type := 4, pos := "law.go:118", after := #[{ on := 4, ground := Ground.data }, { on := 6, ground := Ground.data }, { on := 6, ground := Ground.chain }, { on := 2, ground := Ground.guard }], guard := some (2, true) }) (v := .bool true) [8, 9] [] rfl rfl (by kernel_rfl) (by kernel_rfl) (by kernel_rfl) (by kernel_rfl) (by kernel_rfl) (by kernel_rfl) (by kernel_rfl) (fun _ _ _ h => h) (Or.inl ⟨by rfl, Or.inr ⟨18, #[.agg #[.bool na, .slice A0 xs.length c0, .bool nb, .slice A1 ys.length c1], .agg #[.bool na, .slice A2 xs.length c2, .bool nb, .slice A3 ys.length c3]], fun w' kk ss => ⟨?_, ?_⟩⟩⟩) ?_
  · (try dsimp only at ss); go_simp
  · exact (same_yes A0 A1 A2 A3 c0 c1 c2 c3 na nb xs ys w' (H.out.1.since (hS0.trans (hr0.trans kk))) (H.out.2.1.since (hS0.trans (hr0.trans kk))) (H.out.2.2.1.since (hS0.trans (hr0.trans kk))) (H.out.2.2.2.since (hS0.trans (hr0.trans kk))) (by have := LL.out; omega) (by have := LL.out; omega)).mono fun e w'' h => ⟨h.1, h.2, hall.out _ (hr0.trans (kk.trans h.2))⟩
  try simp only [Act.put, List.setIfInBounds_toArray, List.set_cons_zero, List.set_cons_succ]
  refine' Reg.wpG_take (i := 8) (oi := { dst := some 13, op := Op.pick (Operand.tmp 7) (Operand.tmp 12) (Operand.const (Value.bool false)), type := 4, pos := "law.go:118", after := #[{ on := 2, ground := Ground.data }, { on := 7, ground := Ground.data }], guard := none }) (v := _) [9] [] rfl rfl (by kernel_rfl) (by kernel_rfl) (by kernel_rfl) (by kernel_rfl) (by kernel_rfl) (by kernel_rfl) (by kernel_rfl) (fun _ _ _ h => h) (Or.inl ⟨by rfl, Or.inl ?hy76⟩) ?rest76
  case hy76 => (intro w' kk ss; (try dsimp only at ss); go_simp; first | done | with_reducible rfl)
  try simp only [Act.put, List.setIfInBounds_toArray, List.set_cons_zero, List.set_cons_succ]
  refine' Reg.wpG_take (i := 9) (oi := { dst := some 4, op := Op.assign (Operand.tmp 13), type := 4, pos := "law.go:118", after := #[{ on := 8, ground := Ground.data }, { on := 7, ground := Ground.chain }, { on := 0, ground := Ground.phase }, { on := 1, ground := Ground.phase }, { on := 2, ground := Ground.phase }, { on := 3, ground := Ground.phase }, { on := 4, ground := Ground.phase }, { on := 5, ground := Ground.phase }, { on := 6, ground := Ground.phase }, { on := 7, ground := Ground.phase }, { on := 8, ground := Ground.phase }], guard := none }) (v := _) [] [] rfl rfl (by kernel_rfl) (by kernel_rfl) (by kernel_rfl) (by kernel_rfl) (by kernel_rfl) (by kernel_rfl) (by kernel_rfl) (fun _ _ _ h => h) (Or.inl ⟨by rfl, Or.inl ?hy77⟩) ?rest77
  case hy77 => (intro w' kk ss; (try dsimp only at ss); go_simp; first | done | with_reducible rfl)
  try simp only [Act.put, List.setIfInBounds_toArray, List.set_cons_zero, List.set_cons_succ]
  refine Reg.wpG_done (by kernel_rfl) (fun we ke se => ?_) _
  refine NoPanic.normal ?_
  have hr0 := hr0.trans ke
  clear ke
  go_wp2_with fail
  refine bodyPost_ret (v := .bool true) ?_ rfl ?_
  · simp [results, Tryz.results34, go_sem]
  · exact ⟨rfl, hS0.trans hr0⟩
end Go.Proofs.YtbbemgeinlehmaaGreatDoor.Law04
