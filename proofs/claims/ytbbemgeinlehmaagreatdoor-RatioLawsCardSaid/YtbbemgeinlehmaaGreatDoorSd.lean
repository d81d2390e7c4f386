/- What Neg of package signed gives back. -/
import Derived.Test.YtbbemgeinlehmaaGreatDoorSb
import Derived.Deep.DeepCutAuto
import Derived.Deep.RegionHeld3
namespace Go.Proofs.YtbbemgeinlehmaaGreatDoor.Sg03
open Go.RowKit
set_option linter.unusedVariables false
open Go.Proofs.YtbbemgeinlehmaaGreatDoor.Dig
open Go.Proofs.YtbbemgeinlehmaaGreatDoor.Ref03

set_option maxRecDepth 100000 in
set_option maxHeartbeats 2000000 in
theorem neg_any (A0 : Option Addr) (c0 : Nat) (na : Bool) (xs : List Nat) (w : World) (hx : Row w (.slice A0 xs.length c0) xs) (lx : xs.length ≤ 1000) :
    Calls Tryz.prog 36 #[sv na (.slice A0 xs.length c0)] w (RetZ (negZ na xs) w) := by
  have DX := Lib.hid hx.dig
  obtain ⟨Z, hZ⟩ : ∃ Z, Z = negZ na xs := ⟨_, rfl⟩
  rw [← hZ]
  have EZ := Lib.hid hZ
  clear hZ
  have H := Lib.hid hx
  have LL := Lib.hid lx
  clear hx lx
  obtain ⟨n0, hn0⟩ : ∃ n, n = xs.length := ⟨_, rfl⟩
  rw [← hn0] at H ⊢
  clear hn0
  obtain ⟨W0, hW0⟩ : ∃ W0, W0 = (w.alloc (.cells #[.bool na, .slice A0 n0 c0] 29)).alloc (.cells #[.bool false, .slice none 0 0] 29) := ⟨_, rfl⟩
  have HW := Lib.hid hW0
  have hS0 : Since w W0 := by rw [hW0]; exact ((Since.refl w).alloc _).alloc _
  have hold : Hid (∀ W : World, Since W0 W → (W.cell? ⟨w.heap.size, 0, none⟩ = some (.bool na) ∧ W.cell? ⟨w.heap.size, 1, none⟩ = some (.slice A0 n0 c0)) ∧ Since w W) := fun W h => ⟨hold1of (hW0 ▸ h), hS0.trans h⟩
  have hk : Hid (∀ W : World, Since W0 W → W.cell? ⟨w.heap.size + 1, 0, none⟩ = some (.bool false) ∧ W.cell? ⟨w.heap.size + 1, 1, none⟩ = some (.slice none 0 0) ∧ W.frozen? ⟨w.heap.size + 1, 0, none⟩ = false ∧ W.frozen? ⟨w.heap.size + 1, 1, none⟩ = false) := fun W h => keep2of (hW0 ▸ h)
  have hb : Hid (∀ W : World, Since W0 W → Since ((w.alloc (.cells #[.bool na, .slice A0 n0 c0] 29)).alloc (.cells #[.bool false, .slice none 0 0] 29)) W) := fun W h => hW0 ▸ h
  have setS : ∀ {W : World} {u0 u1 : Value}, Since W0 W → Since w ((W.setCell ⟨w.heap.size + 1, 0, none⟩ u0).setCell ⟨w.heap.size + 1, 1, none⟩ u1) := fun h => ((hS0.trans h).set (by show w.heap.size ≤ w.heap.size + 1; omega) _).set (by show w.heap.size ≤ w.heap.size + 1; omega) _
  clear hW0
  have hK := Since.refl W0
  by_cases r1 : srightB na xs = true
  · have R1 := Lib.hid r1
    have E := Lib.hid (show Z = ((signB (!na) xs, xs), 0) by
      have e1 : -(sval na xs) = sgn (!na) (num xs) := by cases na <;> simp [sval, sgn]
      have e2 := ng_sgn (!na) (num xs)
      have e3 := digs_num DX.out (right_norm (sright_right r1)).2
      rw [EZ.out, negZ, if_pos r1, e1, ← e2.1, ← e2.2, e3])
    clear r1
    go_enter Tryz.func36, Tryz.ntmps36
    go_wp2_with fail
    rw [← HW.out]
    go_upto_region 3 with (first
      | (go_at_call 65; (with_reducible refine (right_any (.slice A0 n0 c0) na xs _ (H.out.since (hS0.trans hK)) (by have := LL.out; omega)).mono ?_); rw [R1.out]; rintro e w1 ⟨rfl, h⟩; have hK := hK.trans h; obtain ⟨⟨k0, k1⟩, _⟩ := hold.out _ hK; obtain ⟨q0, q1, q2, q3⟩ := hk.out _ hK))
    have HL := Lib.hid (show xs.length ≤ 1000000 by have := LL.out; omega)
    have hh : Hid (∀ W : World, (W.cell? ⟨w.heap.size, 0, none⟩ = some (.bool na) ∧ W.cell? ⟨w.heap.size, 1, none⟩ = some (.slice A0 n0 c0)) ∧ Since w W → Since w W) := fun W h => h.2
    go_region_held3 (fun W => (W.cell? ⟨w.heap.size, 0, none⟩ = some (.bool na) ∧ W.cell? ⟨w.heap.size, 1, none⟩ = some (.slice A0 n0 c0)) ∧ Since w W)
      (first | exact hold.out _ (Since.refl _) | exact hold.out _ (Since.drew ‹Since W0 _›) | exact hold.out _ ‹Since W0 _› | exact ⟨by go_simp, setS ‹Since W0 _›⟩)
      (first
        | (go_at_call 67; (with_reducible refine (clone_any (.slice A0 n0 c0) xs _ (H.out.since (hh.out _ (by assumption))) (by have := LL.out; omega)).mono ?_); rintro e x1 ⟨A2, c2, rfl, hr, hs1⟩; have hK1 := Since.trans (Since.drew hK) hs1)
        | (go_at_call 66; (with_reducible refine (number_any (.slice A2 xs.length c2) _ xs _ hr HL.out).mono ?_); rintro e x2 ⟨rfl, h2⟩; have hr2 := hr.since h2; have hK2 := hK1.trans h2; obtain ⟨q0, q1, q2, q3⟩ := hk.out _ hK2))
    go_wp2
    refine bodyPost_ret (v := .tuple #[sv (signB (!na) xs) (.slice A2 xs.length c2), .int .i64 0]) ?_ rfl ?_
    · simp [results, Tryz.results36, go_sem, q0, q1]
    · show RetZ Z w _ _
      rw [E.out]
      exact ⟨_, _, rfl, row_set2of hr2 (hb.out _ hK2) _ _, setS hK2⟩
  · have R1 := Lib.hid (show srightB na xs = false by simpa using r1)
    have E := Lib.hid (show Z = ((false, []), 2) by rw [EZ.out, negZ, if_neg r1])
    clear r1
    go_enter Tryz.func36, Tryz.ntmps36
    go_wp2_with fail
    rw [← HW.out]
    go_wp2_with (first
      | (go_at_call 65; (with_reducible refine (right_any (.slice A0 n0 c0) na xs _ (H.out.since (hS0.trans hK)) (by have := LL.out; omega)).mono ?_); rw [R1.out]; rintro e w1 ⟨rfl, h⟩; have hK := hK.trans h; obtain ⟨⟨k0, k1⟩, _⟩ := hold.out _ hK; obtain ⟨q0, q1, q2, q3⟩ := hk.out _ hK))
    refine bodyPost_ret (v := .tuple #[sv false (.slice none 0 0), .int .i64 2]) ?_ rfl ?_
    · simp [results, Tryz.results36, go_sem, q0, q1]
    · show RetZ Z w _ _
      rw [E.out]
      exact ⟨_, _, rfl, Row.nil _, setS hK⟩

end Go.Proofs.YtbbemgeinlehmaaGreatDoor.Sg03
