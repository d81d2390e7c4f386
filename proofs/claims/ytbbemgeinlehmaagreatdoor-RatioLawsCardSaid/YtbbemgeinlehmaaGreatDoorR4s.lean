/- What the document's own Same of layer 4 gives back. -/
import Derived.Test.YtbbemgeinlehmaaGreatDoorQa
import Derived.Deep.DeepCutAuto
namespace Go.Proofs.YtbbemgeinlehmaaGreatDoor.Ref04
open Go.RowKit
set_option linter.unusedVariables false
open Go.Proofs.YtbbemgeinlehmaaGreatDoor.Dig Go.Proofs.YtbbemgeinlehmaaGreatDoor.R4 Go.Proofs.YtbbemgeinlehmaaGreatDoor.Fr
open Go.Proofs.YtbbemgeinlehmaaGreatDoor.Ref03 (sv srightB gcdZ divZ negZ mulZ addZ cmpZ textZ sval ngB mag RetZ RetQR RetS)

set_option maxRecDepth 100000 in
set_option maxHeartbeats 4000000 in
theorem same_any (A0 A1 A2 A3 : Option Addr) (c0 c1 c2 c3 : Nat) (na nb nc nd : Bool) (xs ys us vs : List Nat) (w : World) (hx : Row w (.slice A0 xs.length c0) xs) (hy : Row w (.slice A1 ys.length c1) ys) (hu : Row w (.slice A2 us.length c2) us) (hv : Row w (.slice A3 vs.length c3) vs)
    (lx : xs.length ≤ 10000) (ly : ys.length ≤ 10000) (lu : us.length ≤ 10000) (lv : vs.length ≤ 10000) :
    Calls Tryz.prog 18 #[.agg #[.bool na, .slice A0 xs.length c0, .bool nb, .slice A1 ys.length c1], .agg #[.bool nc, .slice A2 us.length c2, .bool nd, .slice A3 vs.length c3]] w fun e w' => e = .returned (.bool (sameF ((na, xs), (nb, ys)) ((nc, us), (nd, vs)))) ∧ Since w w' := by
  have H := Lib.hid (And.intro hx (And.intro hy (And.intro hu hv)))
  have LL := Lib.hid (And.intro lx (And.intro ly (And.intro lu lv)))
  clear hx hy hu hv lx ly lu lv
  obtain ⟨W0, hW0⟩ : ∃ W0, W0 = (w.alloc (.cells #[.bool na, .slice A0 xs.length c0, .bool nb, .slice A1 ys.length c1] 26)).alloc (.cells #[.bool nc, .slice A2 us.length c2, .bool nd, .slice A3 vs.length c3] 26) := ⟨_, rfl⟩
  have HW := Lib.hid hW0
  have hS0 : Since w W0 := by rw [hW0]; exact ((Since.refl w).alloc _).alloc _
  have hbx : Hid (∀ W : World, Since W0 W → Bx W (w.heap.size) #[.bool na, .slice A0 xs.length c0, .bool nb, .slice A1 ys.length c1] 26 ∧ Bx W (w.heap.size + 1) #[.bool nc, .slice A2 us.length c2, .bool nd, .slice A3 vs.length c3] 26) := fun W h => ⟨Bx.new ((since_alloc _ _).trans (hW0 ▸ h)) (by simp), Bx.new (hW0 ▸ h) (by simp)⟩
  clear hW0
  have hK := Since.refl W0
  obtain ⟨b1, e1⟩ : ∃ b, (na == nc && sameB xs us) = b := ⟨_, rfl⟩
  obtain ⟨b2, e2⟩ : ∃ b, (nb == nd && sameB ys vs) = b := ⟨_, rfl⟩
  have E1 := Lib.hid e1
  have E2 := Lib.hid e2
  rw [show sameF ((na, xs), (nb, ys)) ((nc, us), (nd, vs)) = (b1 && b2) by unfold sameF; rw [← e1, ← e2]]
  clear e1 e2
  cases b1
  · go_enter Tryz.func18, Tryz.ntmps18
    go_wp2_with fail
    rw [← HW.out]
    obtain ⟨B0, B1⟩ := hbx.out _ hK; obtain ⟨k0a, k0b, k0c, k0d⟩ := B0.four; obtain ⟨k1a, k1b, k1c, k1d⟩ := B1.four
    go_wp2_with (first
      | (go_at_call 30; (with_reducible refine (Ref03.same_any (.slice A0 xs.length c0) (.slice A2 us.length c2) na nc xs us _ (H.out.1.since (hS0.trans hK)) (H.out.2.2.1.since (hS0.trans hK)) (by have := LL.out; omega) (by have := LL.out; omega)).mono ?_); rw [E1.out]; rintro e w1 ⟨rfl, h⟩; have hK := hK.trans h; obtain ⟨B0, B1⟩ := hbx.out _ hK; obtain ⟨k0a, k0b, k0c, k0d⟩ := B0.four; obtain ⟨k1a, k1b, k1c, k1d⟩ := B1.four)
      | (go_at_call 30; (with_reducible refine (Ref03.same_any (.slice A1 ys.length c1) (.slice A3 vs.length c3) nb nd ys vs _ (H.out.2.1.since (hS0.trans hK)) (H.out.2.2.2.since (hS0.trans hK)) (by have := LL.out; omega) (by have := LL.out; omega)).mono ?_); rw [E2.out]; rintro e w2 ⟨rfl, h⟩; have hK := hK.trans h; obtain ⟨B0, B1⟩ := hbx.out _ hK; obtain ⟨k0a, k0b, k0c, k0d⟩ := B0.four; obtain ⟨k1a, k1b, k1c, k1d⟩ := B1.four))
    go_ret
    exact ⟨rfl, hS0.trans hK⟩
  go_enter Tryz.func18, Tryz.ntmps18
  go_wp2_with fail
  rw [← HW.out]
  obtain ⟨B0, B1⟩ := hbx.out _ hK; obtain ⟨k0a, k0b, k0c, k0d⟩ := B0.four; obtain ⟨k1a, k1b, k1c, k1d⟩ := B1.four
  go_wp2_with (first
    | (go_at_call 30; (with_reducible refine (Ref03.same_any (.slice A0 xs.length c0) (.slice A2 us.length c2) na nc xs us _ (H.out.1.since (hS0.trans hK)) (H.out.2.2.1.since (hS0.trans hK)) (by have := LL.out; omega) (by have := LL.out; omega)).mono ?_); rw [E1.out]; rintro e w1 ⟨rfl, h⟩; have hK := hK.trans h; obtain ⟨B0, B1⟩ := hbx.out _ hK; obtain ⟨k0a, k0b, k0c, k0d⟩ := B0.four; obtain ⟨k1a, k1b, k1c, k1d⟩ := B1.four)
    | (go_at_call 30; (with_reducible refine (Ref03.same_any (.slice A1 ys.length c1) (.slice A3 vs.length c3) nb nd ys vs _ (H.out.2.1.since (hS0.trans hK)) (H.out.2.2.2.since (hS0.trans hK)) (by have := LL.out; omega) (by have := LL.out; omega)).mono ?_); rw [E2.out]; rintro e w2 ⟨rfl, h⟩; have hK := hK.trans h; obtain ⟨B0, B1⟩ := hbx.out _ hK; obtain ⟨k0a, k0b, k0c, k0d⟩ := B0.four; obtain ⟨k1a, k1b, k1c, k1d⟩ := B1.four))
  go_ret
  exact ⟨by simp, hS0.trans hK⟩
end Go.Proofs.YtbbemgeinlehmaaGreatDoor.Ref04
