/- What the document's own Gcd of layer 3 gives back. What the document's own DivMod of layer 3 gives back. What the document's own DivMod of layer 3 gives back where the signs differ. What the document's own DivMod of layer 3 gives back where the signs differ and a rest is left. What the document's own DivMod of layer 3 gives back, whole. -/
import Derived.Test.YtbbemgeinlehmaaGreatDoorRb
import Derived.Test.YtbbemgeinlehmaaGreatDoorRa
import Derived.Deep.QuietTactic
import Derived.BigQuiet
import Derived.Deep.RegionHeld3
import Derived.Test.YtbbemgeinlehmaaGreatDoorRef03q
namespace Go.Proofs.YtbbemgeinlehmaaGreatDoor.Ref03
open Go.RowKit
set_option linter.unusedVariables false
open Go.Proofs.YtbbemgeinlehmaaGreatDoor.Dig

set_option maxRecDepth 100000 in
set_option maxHeartbeats 2000000 in
theorem gcd_any (A0 A1 : Option Addr) (c0 c1 : Nat) (na nb : Bool) (xs ys : List Nat) (w : World) (hx : Row w (.slice A0 xs.length c0) xs) (hy : Row w (.slice A1 ys.length c1) ys) (lx : xs.length ≤ 1000) (ly : ys.length ≤ 1000) :
    Calls Tryz.prog 62 #[sv na (.slice A0 xs.length c0), sv nb (.slice A1 ys.length c1)] w (RetZ (gcdZ na xs nb ys) w) := by
  have H := Lib.hid (And.intro hx hy)
  have LL := Lib.hid (And.intro lx ly)
  obtain ⟨Z, hZ⟩ : ∃ Z, Z = gcdZ na xs nb ys := ⟨_, rfl⟩
  rw [← hZ]
  have EZ := Lib.hid hZ
  clear hZ hx hy lx ly
  obtain ⟨n0, hn0⟩ : ∃ n, n = xs.length := ⟨_, rfl⟩
  obtain ⟨n1, hn1⟩ : ∃ n, n = ys.length := ⟨_, rfl⟩
  rw [← hn0] at H ⊢
  rw [← hn1] at H ⊢
  clear hn0 hn1
  obtain ⟨W0, hW0⟩ : ∃ W0, W0 = ((w.alloc (.cells #[.bool na, .slice A0 n0 c0] 24)).alloc (.cells #[.bool nb, .slice A1 n1 c1] 24)).alloc (.cells #[.bool false, .slice none 0 0] 24) := ⟨_, rfl⟩
  have HW := Lib.hid hW0
  have hold : Hid (∀ W : World, Since W0 W → (W.cell? ⟨w.heap.size, 0, none⟩ = some (.bool na) ∧ W.cell? ⟨w.heap.size, 1, none⟩ = some (.slice A0 n0 c0) ∧ W.cell? ⟨w.heap.size + 1, 0, none⟩ = some (.bool nb) ∧ W.cell? ⟨w.heap.size + 1, 1, none⟩ = some (.slice A1 n1 c1)) ∧ Since w W) := fun W h => ⟨hold2 (hW0 ▸ h), by rw [hW0] at h; exact ((((Since.refl w).alloc _).alloc _).alloc _).trans h⟩
  have hk3 : Hid (∀ W : World, Since W0 W → W.cell? ⟨w.heap.size + 1 + 1, 0, none⟩ = some (.bool false) ∧ W.cell? ⟨w.heap.size + 1 + 1, 1, none⟩ = some (.slice none 0 0) ∧ W.frozen? ⟨w.heap.size + 1 + 1, 0, none⟩ = false ∧ W.frozen? ⟨w.heap.size + 1 + 1, 1, none⟩ = false) := fun W h => keep3 (hW0 ▸ h)
  have hb3 : Hid (∀ W : World, Since W0 W → Since (((w.alloc (.cells #[.bool na, .slice A0 n0 c0] 24)).alloc (.cells #[.bool nb, .slice A1 n1 c1] 24)).alloc (.cells #[.bool false, .slice none 0 0] 24)) W) := fun W h => hW0 ▸ h
  have since_set3 : ∀ {W : World} {u0 u1 : Value}, Since W0 W → Since w ((W.setCell ⟨w.heap.size + 1 + 1, 0, none⟩ u0).setCell ⟨w.heap.size + 1 + 1, 1, none⟩ u1) := fun h => by rw [hW0] at h; exact ((((((Since.refl w).alloc _).alloc _).alloc _).trans h).set (by show w.heap.size ≤ w.heap.size + 1 + 1; omega) _).set (by show w.heap.size ≤ w.heap.size + 1 + 1; omega) _
  have hS0 : Since w W0 := by rw [hW0]; exact (((Since.refl w).alloc _).alloc _).alloc _
  clear hW0
  have hK := Since.refl W0
  by_cases r1 : srightB na xs = true
  · by_cases r2 : srightB nb ys = true
    · have R1 := Lib.hid r1
      have R2 := Lib.hid r2
      have WAY := Lib.hid (show OnWay (Nat.gcd (num xs) (num ys)) xs ys from ⟨sright_right r1, sright_right r2, rfl⟩)
      have E := Lib.hid (show Z = ((false, digs (Nat.gcd (num xs) (num ys))), 0) by rw [EZ.out, gcdZ, if_pos ⟨r1, r2⟩])
      obtain ⟨G, hG⟩ : ∃ G, G = Nat.gcd (num xs) (num ys) := ⟨_, rfl⟩
      rw [← hG] at E WAY
      clear r1 r2 hG EZ
      go_enter Tryz.func62, Tryz.ntmps62
      go_wp2_with fail
      rw [← HW.out]
      go_wp2_with (first
        | (go_at_call 61; (with_reducible refine (right_any (.slice A0 n0 c0) na xs _ (H.out.1.since (hS0.trans hK)) (by have := LL.out; omega)).mono ?_); rw [R1.out]; rintro e w1 ⟨rfl, h1⟩; have hK := hK.trans h1; obtain ⟨⟨k0, k1, k2, k3⟩, _⟩ := hold.out _ hK)
        | (go_at_call 61; (with_reducible refine (right_any (.slice A1 n1 c1) nb ys _ (H.out.2.since (hS0.trans hK)) (by have := LL.out; omega)).mono ?_); rw [R2.out]; rintro e w2 ⟨rfl, h2⟩; have hK := hK.trans h2; obtain ⟨⟨k0, k1, k2, k3⟩, _⟩ := hold.out _ hK))
      go_quiet (fail)
      go_wp2
      go_loopw [6, 7] (fun x y wr => ∃ us vs, Row wr x us ∧ Row wr y vs ∧ Hid (OnWay G us vs) ∧ Since W0 wr) (fun _ y wr => rdNum wr y)
      case atStart => exact ⟨xs, ys, (H.out.1.since (hS0.trans hK)).since (Since.drewN (Since.refl _) _), (H.out.2.since (hS0.trans hK)).since (Since.drewN (Since.refl _) _), WAY, Since.drewN hK _⟩
      case round =>
        obtain ⟨us, vs, hu, hv, hway, hK⟩ := hrel
        have HR := Lib.hid (And.intro hu hv)
        have DU := Lib.hid (And.intro hu.dig hv.dig)
        obtain ⟨_, A, cA, rfl, _, -⟩ := hu
        obtain ⟨_, B, cB, rfl, _, -⟩ := hv
        obtain ⟨⟨k0, k1, k2, k3⟩, _⟩ := hold.out _ hK
        obtain ⟨q0, q1, q2, q3⟩ := hk3.out _ hK
        by_cases h0 : vs.length = 0
        · obtain ⟨e1, e2⟩ := hway.out.last DU.out.1 h0
          have hz : decide (0 < vs.length) = false := by rw [decide_eq_false_iff_not]; omega
          have HL := Lib.hid (show us.length ≤ 256 by rw [e1]; exact e2)
          have E2 := Lib.hid (show Z = ((false, us), 0) by rw [E.out, e1])
          clear e1 e2 h0
          go_wp2_with (first
            | (go_at_call 74; (with_reducible refine (made_plus (.slice A us.length cA) us _ HR.out.1 HL.out).mono ?_); rintro e w4 ⟨rfl, h4⟩; have hK := hK.trans h4; obtain ⟨q0, q1, q2, q3⟩ := hk3.out _ hK))
          refine bodyPost_ret (v := .tuple #[sv false (.slice A us.length cA), .int .i64 0]) ?_ rfl ?_
          · simp [results, Tryz.results62, go_sem, q0, q1]
          · show RetZ Z w _ _
            rw [E2.out]
            exact ⟨_, _, rfl, row_set3 (HR.out.1.since h4) (hb3.out _ hK) _ _, since_set3 hK⟩
        · have hz : decide (0 < vs.length) = true := by rw [decide_eq_true_iff]; omega
          have hn := hway.out.next DU.out.2 h0
          have HN := Lib.hid hn
          have HA := Lib.hid (show us.length ≤ 256 ∧ vs.length ≤ 256 from ⟨(right_norm hway.out.1).1, (right_norm hway.out.2.1).1⟩)
          have H0 := Lib.hid h0
          clear hn h0
          go_wp2_with (first
            | (go_at_call 81; (with_reducible refine (Ref02.divmod_good (.slice A us.length cA) (.slice B vs.length cB) us vs _ HR.out.1 HR.out.2 (by have := HA.out; omega) (by have := HA.out; omega) hway.out.1 hway.out.2.1 H0.out).mono ?_); rintro e w4 ⟨v1, v2, rfl, hr1, hr2, h4⟩))
          go_roundw
          case rel => exact ⟨vs, _, HR.out.2.since h4, hr2, Lib.hid HN.out.1, hK.trans h4⟩
          case measure => rw [rdNum_row hr2, rdNum_row HR.out.2]; exact HN.out.2
    · have R1 := Lib.hid r1
      have R2 := Lib.hid (show srightB nb ys = false by simpa using r2)
      have E := Lib.hid (show Z = ((false, []), 2) by rw [EZ.out, gcdZ, if_neg (fun h => r2 h.2)])
      clear r1 r2
      go_enter Tryz.func62, Tryz.ntmps62
      go_wp2_with fail
      rw [← HW.out]
      go_wp2_with (first
        | (go_at_call 61; (with_reducible refine (right_any (.slice A0 n0 c0) na xs _ (H.out.1.since (hS0.trans hK)) (by have := LL.out; omega)).mono ?_); rw [R1.out]; rintro e w1 ⟨rfl, h1⟩; have hK := hK.trans h1; obtain ⟨⟨k0, k1, k2, k3⟩, _⟩ := hold.out _ hK; obtain ⟨q0, q1, q2, q3⟩ := hk3.out _ hK)
        | (go_at_call 61; (with_reducible refine (right_any (.slice A1 n1 c1) nb ys _ (H.out.2.since (hS0.trans hK)) (by have := LL.out; omega)).mono ?_); rw [R2.out]; rintro e w2 ⟨rfl, h2⟩; have hK := hK.trans h2; obtain ⟨⟨k0, k1, k2, k3⟩, _⟩ := hold.out _ hK; obtain ⟨q0, q1, q2, q3⟩ := hk3.out _ hK))
      refine bodyPost_ret (v := .tuple #[sv false (.slice none 0 0), .int .i64 2]) ?_ rfl ?_
      · simp [results, Tryz.results62, go_sem, q0, q1]
      · show RetZ Z w _ _
        rw [E.out]
        exact ⟨_, _, rfl, Row.nil _, since_set3 hK⟩
  · have R1 := Lib.hid (show srightB na xs = false by simpa using r1)
    have E := Lib.hid (show Z = ((false, []), 2) by rw [EZ.out, gcdZ, if_neg (fun h => r1 h.1)])
    clear r1
    go_enter Tryz.func62, Tryz.ntmps62
    go_wp2_with fail
    rw [← HW.out]
    go_wp2_with (first
      | (go_at_call 61; (with_reducible refine (right_any (.slice A0 n0 c0) na xs _ (H.out.1.since (hS0.trans hK)) (by have := LL.out; omega)).mono ?_); rw [R1.out]; rintro e w1 ⟨rfl, h1⟩; have hK := hK.trans h1; obtain ⟨⟨k0, k1, k2, k3⟩, _⟩ := hold.out _ hK; obtain ⟨q0, q1, q2, q3⟩ := hk3.out _ hK))
    refine bodyPost_ret (v := .tuple #[sv false (.slice none 0 0), .int .i64 2]) ?_ rfl ?_
    · simp [results, Tryz.results62, go_sem, q0, q1]
    · show RetZ Z w _ _
      rw [E.out]
      exact ⟨_, _, rfl, Row.nil _, since_set3 hK⟩
end Go.Proofs.YtbbemgeinlehmaaGreatDoor.Ref03

namespace Go.Proofs.YtbbemgeinlehmaaGreatDoor.Ref03
open Go.RowKit
set_option linter.unusedVariables false
open Go.Proofs.YtbbemgeinlehmaaGreatDoor.Dig

/-- the document's own DivMod of layer 2, its slices seen as slices -/
theorem divmod2 (A0 A1 : Option Addr) (c0 c1 : Nat) (xs ys : List Nat) (w : World) (hx : Row w (.slice A0 xs.length c0) xs) (hy : Row w (.slice A1 ys.length c1) ys) (lx : xs.length ≤ 1000) (ly : ys.length ≤ 1000) (r1 : rightB xs = true) (r2 : rightB ys = true) (h0 : ys.length ≠ 0) {dq dr : List Nat} (eq : digs (num xs / num ys) = dq) (er : digs (num xs % num ys) = dr) :
    Calls Tryz.prog 81 #[.slice A0 xs.length c0, .slice A1 ys.length c1] w fun e w' => ∃ A c B d, e = .returned (.tuple #[.slice A dq.length c, .slice B dr.length d, .int .i64 0]) ∧ Row w' (.slice A dq.length c) dq ∧ Row w' (.slice B dr.length d) dr ∧ Since w w' := by
  subst eq er
  refine (Ref02.divmod_good _ _ xs ys w hx hy (by omega) (by omega) r1 r2 h0).mono ?_
  rintro e w' ⟨v1, v2, rfl, h1, h2, hs⟩
  obtain ⟨d1, A, c, rfl, k1⟩ := h1
  obtain ⟨d2, B, d, rfl, k2⟩ := h2
  exact ⟨A, c, B, d, rfl, ⟨d1, A, c, rfl, k1⟩, ⟨d2, B, d, rfl, k2⟩, hs⟩
set_option maxRecDepth 100000 in
set_option maxHeartbeats 2000000 in
theorem divmod_same (A0 A1 : Option Addr) (c0 c1 : Nat) (na nb : Bool) (xs ys : List Nat) (w : World) (hx : Row w (.slice A0 xs.length c0) xs) (hy : Row w (.slice A1 ys.length c1) ys) (lx : xs.length ≤ 1000) (ly : ys.length ≤ 1000)
    (r1 : srightB na xs = true) (r2 : srightB nb ys = true) (h0 : ys.length ≠ 0) (hs : (na == nb) = true) {dq dr : List Nat} (eq : digs (num xs / num ys) = dq) (er : digs (num xs % num ys) = dr) (lq : dq.length ≤ 1000) (lr : dr.length ≤ 1000) :
    Calls Tryz.prog 54 #[sv na (.slice A0 xs.length c0), sv nb (.slice A1 ys.length c1)] w (RetQR (signB false dq, dq) (signB nb dr, dr) 0 w) := by
  have H := Lib.hid (And.intro hx hy)
  have LL := Lib.hid (And.intro (And.intro lx ly) (And.intro lq lr))
  have R1 := Lib.hid r1
  have R2 := Lib.hid r2
  have DM := Lib.hid (fun (W : World) (gx : Row W (.slice A0 xs.length c0) xs) (gy : Row W (.slice A1 ys.length c1) ys) => divmod2 A0 A1 c0 c1 xs ys W gx gy lx ly (sright_right r1) (sright_right r2) h0 eq er)
  have hz : ((ys.length : Int) == 0) = false := by rw [beq_eq_false_iff_ne]; omega
  clear hx hy lx ly lq lr r1 r2 h0 eq er
  obtain ⟨n0, hn0⟩ : ∃ n, n = xs.length := ⟨_, rfl⟩
  obtain ⟨n1, hn1⟩ : ∃ n, n = ys.length := ⟨_, rfl⟩
  rw [← hn0] at H DM ⊢
  rw [← hn1] at H DM hz ⊢
  clear hn0 hn1
  obtain ⟨W0, hW0⟩ : ∃ W0, W0 = frame4 w na nb (.slice A0 n0 c0) (.slice A1 n1 c1) 24 := ⟨_, rfl⟩
  have hW1 := hW0
  unfold frame4 at hW1
  have HW := Lib.hid hW1
  clear hW1
  have hold : Hid (∀ W : World, Since W0 W → (W.cell? ⟨w.heap.size, 0, none⟩ = some (.bool na) ∧ W.cell? ⟨w.heap.size, 1, none⟩ = some (.slice A0 n0 c0) ∧ W.cell? ⟨w.heap.size + 1, 0, none⟩ = some (.bool nb) ∧ W.cell? ⟨w.heap.size + 1, 1, none⟩ = some (.slice A1 n1 c1)) ∧ Since w W) := fun W h => ⟨frame4_in (hW0 ▸ h), by rw [hW0] at h; exact (frame4_since _ _ _ _ _ _).trans h⟩
  have hk4 : Hid (∀ W : World, Since W0 W → _) := fun W h => frame4_out (hW0 ▸ h)
  have hb4 : Hid (∀ W : World, Since W0 W → Since (frame4 w na nb (.slice A0 n0 c0) (.slice A1 n1 c1) 24) W) := fun W h => hW0 ▸ h
  have hS0 : Since w W0 := by rw [hW0]; exact frame4_since _ _ _ _ _ _
  clear hW0
  have hK := Since.refl W0
  go_enter Tryz.func54, Tryz.ntmps54
  go_wp2_with fail
  rw [← HW.out]
  go_wp2_with (first
    | (go_at_call 61; (with_reducible refine (right_any (.slice A0 n0 c0) na xs _ (H.out.1.since (hS0.trans hK)) (by have := LL.out; omega)).mono ?_); rw [R1.out]; rintro e w1 ⟨rfl, h1⟩; have hK := hK.trans h1; obtain ⟨⟨k0, k1, k2, k3⟩, _⟩ := hold.out _ hK)
    | (go_at_call 61; (with_reducible refine (right_any (.slice A1 n1 c1) nb ys _ (H.out.2.since (hS0.trans hK)) (by have := LL.out; omega)).mono ?_); rw [R2.out]; rintro e w2 ⟨rfl, h2⟩; have hK := hK.trans h2; obtain ⟨⟨k0, k1, k2, k3⟩, _⟩ := hold.out _ hK)
    | (go_at_call 81; (with_reducible refine (DM.out _ (H.out.1.since (hS0.trans hK)) (H.out.2.since (hS0.trans hK))).mono ?_); rintro e w3 ⟨A2, c2, A3, c3, rfl, hq, hr, h3⟩; have hK := hK.trans h3; obtain ⟨⟨k0, k1, k2, k3⟩, _⟩ := hold.out _ hK))
  have hh : Hid (∀ W : World, (W.cell? ⟨w.heap.size, 0, none⟩ = some (.bool na) ∧ W.cell? ⟨w.heap.size, 1, none⟩ = some (.slice A0 n0 c0) ∧ W.cell? ⟨w.heap.size + 1, 0, none⟩ = some (.bool nb) ∧ W.cell? ⟨w.heap.size + 1, 1, none⟩ = some (.slice A1 n1 c1)) ∧ Since w W → Since w W) := fun W h => h.2
  go_region_held3 (fun W => (W.cell? ⟨w.heap.size, 0, none⟩ = some (.bool na) ∧ W.cell? ⟨w.heap.size, 1, none⟩ = some (.slice A0 n0 c0) ∧ W.cell? ⟨w.heap.size + 1, 0, none⟩ = some (.bool nb) ∧ W.cell? ⟨w.heap.size + 1, 1, none⟩ = some (.slice A1 n1 c1)) ∧ Since w W)
    (first | exact hold.out _ ‹Since W0 _› | exact hold.out _ (Since.drew ‹Since W0 _›) | exact ⟨by go_simp, by repeat (first | assumption | refine Since.set ?_ (by simp <;> omega) _)⟩)
    (first
      | (go_at_call 74; (with_reducible refine (made_any (.slice A2 dq.length c2) false dq _ (hq.since (Since.drew (Since.refl _))) (by have := LL.out; omega)).mono ?_); rintro e w4 ⟨rfl, h4⟩; have hs4 := (Since.drew (Since.refl w3)).trans h4; have hK4 := hK.trans hs4; have hq4 := hq.since hs4; have hr4 := hr.since hs4)
      | (go_at_call 74; (with_reducible refine (made_any (.slice A3 dr.length c3) nb dr _ hr4 (by have := LL.out; omega)).mono ?_); rintro e w5 ⟨rfl, h5⟩; have hK5 := hK4.trans h5; have hq5 := hq4.since h5; have hr5 := hr4.since h5; have hS5 := (hold.out _ hK5).2; obtain ⟨⟨q0, q1, q2, q3⟩, p0, p1, p2, p3⟩ := hk4.out _ hK5))
  go_wp2
  refine bodyPost_ret (v := .tuple #[sv (signB false dq) (.slice A2 dq.length c2), sv (signB nb dr) (.slice A3 dr.length c3), .int .i64 0]) ?_ rfl ?_
  · simp [results, Tryz.results54, go_sem, q0, q1, p0, p1]
  · exact ⟨_, _, _, _, rfl, row_set4 hq5 (hb4.out _ hK5) _ _ _ _, row_set4 hr5 (hb4.out _ hK5) _ _ _ _, since_set4 (hb4.out _ hK5) _ _ _ _⟩
end Go.Proofs.YtbbemgeinlehmaaGreatDoor.Ref03

namespace Go.Proofs.YtbbemgeinlehmaaGreatDoor.Ref03
open Go.RowKit
set_option linter.unusedVariables false
open Go.Proofs.YtbbemgeinlehmaaGreatDoor.Dig

set_option maxRecDepth 100000 in
set_option maxHeartbeats 2000000 in
theorem divmod_diff0 (A0 A1 : Option Addr) (c0 c1 : Nat) (na nb : Bool) (xs ys : List Nat) (w : World) (hx : Row w (.slice A0 xs.length c0) xs) (hy : Row w (.slice A1 ys.length c1) ys) (lx : xs.length ≤ 1000) (ly : ys.length ≤ 1000)
    (r1 : srightB na xs = true) (r2 : srightB nb ys = true) (h0 : ys.length ≠ 0) (hs : (na == nb) = false) {dq : List Nat} (eq : digs (num xs / num ys) = dq) (er : digs (num xs % num ys) = []) (lq : dq.length ≤ 256)  :
    Calls Tryz.prog 54 #[sv na (.slice A0 xs.length c0), sv nb (.slice A1 ys.length c1)] w (RetQR (signB true dq, dq) (signB nb [], []) 0 w) := by
  have H := Lib.hid (And.intro hx hy)
  have LL := Lib.hid (And.intro (And.intro lx ly) lq)
  have R1 := Lib.hid r1
  have R2 := Lib.hid r2
  have DM := Lib.hid (fun (W : World) (gx : Row W (.slice A0 xs.length c0) xs) (gy : Row W (.slice A1 ys.length c1) ys) => divmod2 A0 A1 c0 c1 xs ys W gx gy lx ly (sright_right r1) (sright_right r2) h0 eq er)
  have hz : ((ys.length : Int) == 0) = false := by rw [beq_eq_false_iff_ne]; omega
  clear hx hy lx ly lq r1 r2 h0 eq er
  obtain ⟨n0, hn0⟩ : ∃ n, n = xs.length := ⟨_, rfl⟩
  obtain ⟨n1, hn1⟩ : ∃ n, n = ys.length := ⟨_, rfl⟩
  rw [← hn0] at H DM ⊢
  rw [← hn1] at H DM hz ⊢
  clear hn0 hn1
  obtain ⟨W0, hW0⟩ : ∃ W0, W0 = frame4 w na nb (.slice A0 n0 c0) (.slice A1 n1 c1) 24 := ⟨_, rfl⟩
  have hW1 := hW0
  unfold frame4 at hW1
  have HW := Lib.hid hW1
  clear hW1
  have hold : Hid (∀ W : World, Since W0 W → (W.cell? ⟨w.heap.size, 0, none⟩ = some (.bool na) ∧ W.cell? ⟨w.heap.size, 1, none⟩ = some (.slice A0 n0 c0) ∧ W.cell? ⟨w.heap.size + 1, 0, none⟩ = some (.bool nb) ∧ W.cell? ⟨w.heap.size + 1, 1, none⟩ = some (.slice A1 n1 c1)) ∧ Since w W) := fun W h => ⟨frame4_in (hW0 ▸ h), by rw [hW0] at h; exact (frame4_since _ _ _ _ _ _).trans h⟩
  have hk4 : Hid (∀ W : World, Since W0 W → _) := fun W h => frame4_out (hW0 ▸ h)
  have hb4 : Hid (∀ W : World, Since W0 W → Since (frame4 w na nb (.slice A0 n0 c0) (.slice A1 n1 c1) 24) W) := fun W h => hW0 ▸ h
  have hS0 : Since w W0 := by rw [hW0]; exact frame4_since _ _ _ _ _ _
  clear hW0
  have hK := Since.refl W0
  go_enter Tryz.func54, Tryz.ntmps54
  go_wp2_with fail
  rw [← HW.out]
  go_wp2_with (first
    | (go_at_call 61; (with_reducible refine (right_any (.slice A0 n0 c0) na xs _ (H.out.1.since (hS0.trans hK)) (by have := LL.out; omega)).mono ?_); rw [R1.out]; rintro e w1 ⟨rfl, h1⟩; have hK := hK.trans h1; obtain ⟨⟨k0, k1, k2, k3⟩, _⟩ := hold.out _ hK)
    | (go_at_call 61; (with_reducible refine (right_any (.slice A1 n1 c1) nb ys _ (H.out.2.since (hS0.trans hK)) (by have := LL.out; omega)).mono ?_); rw [R2.out]; rintro e w2 ⟨rfl, h2⟩; have hK := hK.trans h2; obtain ⟨⟨k0, k1, k2, k3⟩, _⟩ := hold.out _ hK)
    | (go_at_call 81; (with_reducible refine (DM.out _ (H.out.1.since (hS0.trans hK)) (H.out.2.since (hS0.trans hK))).mono ?_); rintro e w3 ⟨A2, c2, A3, c3, rfl, hq, hr, h3⟩; have hr := Lib.hid hr; have hK := hK.trans h3; obtain ⟨⟨k0, k1, k2, k3⟩, _⟩ := hold.out _ hK)
    | (go_at_call 74; (with_reducible refine (made_any (.slice A2 dq.length c2) true dq _ hq (by have := LL.out; omega)).mono ?_); rintro e w4 ⟨rfl, h4⟩; have hK := hK.trans h4; obtain ⟨⟨k0, k1, k2, k3⟩, _⟩ := hold.out _ hK)
    | (go_at_call 82; (with_reducible refine (fit_any A2 c2 (signB true dq) dq _ (hq.since h4) (by have := LL.out; omega)).mono ?_); rw [if_pos LL.out.2]; rintro e w5 ⟨A4, c4, rfl, hf, h5⟩; have hK := hK.trans h5; obtain ⟨⟨k0, k1, k2, k3⟩, _⟩ := hold.out _ hK))
  obtain ⟨W1, hW1⟩ : ∃ W1, W1 = w5.alloc (.cells #[.bool (signB true dq), .slice A4 dq.length c4] 24) := ⟨_, rfl⟩
  rw [← hW1]
  have hs1 : Since w5 W1 := by rw [hW1]; exact since_alloc _ _
  have hsz : w.heap.size + 1 + 1 + 1 + 1 ≤ w5.heap.size := by
    have h := (hb4.out _ hK).size
    simpa [frame4] using h
  have hold1 : Hid (∀ W : World, Since W1 W → (W.cell? ⟨w5.heap.size, 0, none⟩ = some (.bool (signB true dq)) ∧ W.cell? ⟨w5.heap.size, 1, none⟩ = some (.slice A4 dq.length c4) ∧ W.cell? ⟨w.heap.size + 1, 0, none⟩ = some (.bool nb)) ∧ Since w W) := fun W h => ⟨⟨(keep2 (hW1 ▸ h)).1, (keep2 (hW1 ▸ h)).2.1, (hold.out _ (hK.trans (hs1.trans h))).1.2.2.1⟩, (hold.out _ (hK.trans (hs1.trans h))).2⟩
  have hn1 : w5.heap.size ≠ w.heap.size + 1 + 1 := by omega
  have hn2 : w5.heap.size ≠ w.heap.size + 1 + 1 + 1 := by omega
  have hn3 : w.heap.size + 1 + 1 ≠ w5.heap.size := by omega
  have hn4 : w.heap.size + 1 + 1 + 1 ≠ w5.heap.size := by omega
  have hr4 : Row W1 (.slice A3 0 c3) [] := ((hr.out.since h4).since h5).since hs1
  have hf4 := hf.since hs1
  have hK1 := hK.trans hs1
  have hR := Since.refl W1
  clear hW1 hsz hr hf
  have hh : Hid (∀ W : World, (W.cell? ⟨w5.heap.size, 0, none⟩ = some (.bool (signB true dq)) ∧ W.cell? ⟨w5.heap.size, 1, none⟩ = some (.slice A4 dq.length c4) ∧ W.cell? ⟨w.heap.size + 1, 0, none⟩ = some (.bool nb)) ∧ Since w W → Since w W) := fun W h => h.2
  go_region_held3 (fun W => (W.cell? ⟨w5.heap.size, 0, none⟩ = some (.bool (signB true dq)) ∧ W.cell? ⟨w5.heap.size, 1, none⟩ = some (.slice A4 dq.length c4) ∧ W.cell? ⟨w.heap.size + 1, 0, none⟩ = some (.bool nb)) ∧ Since w W)
    (first | exact hold1.out _ ‹Since W1 _› | exact hold1.out _ (Since.drew ‹Since W1 _›) | exact ⟨by go_simp, by repeat (first | assumption | refine Since.set ?_ (by simp <;> omega) _)⟩)
    (first
      | (go_at_call 74; (with_reducible refine (made_any (.slice A3 0 c3) nb [] _ (hr4.since (Since.drew (Since.refl _))) (by simp)).mono ?_); rintro e w6 ⟨rfl, h6⟩; have hs6 := (Since.drew (Since.refl W1)).trans h6; have hK6 := hK1.trans hs6; have hq6 := hf4.since hs6; have hr6 := hr4.since hs6; have hS6 := (hold.out _ hK6).2; obtain ⟨⟨q0, q1, q2, q3⟩, p0, p1, p2, p3⟩ := hk4.out _ hK6))
  go_wp2
  refine bodyPost_ret (v := .tuple #[sv (signB true dq) (.slice A4 dq.length c4), sv (signB nb []) (.slice A3 0 c3), .int .i64 0]) ?_ rfl ?_
  · simp [results, Tryz.results54, go_sem, q0, q1, p0, p1]
  · exact ⟨_, _, _, _, rfl, row_set4 hq6 (hb4.out _ hK6) _ _ _ _, row_set4 hr6 (hb4.out _ hK6) _ _ _ _, since_set4 (hb4.out _ hK6) _ _ _ _⟩
end Go.Proofs.YtbbemgeinlehmaaGreatDoor.Ref03

namespace Go.Proofs.YtbbemgeinlehmaaGreatDoor.Ref03
open Go.RowKit
set_option linter.unusedVariables false
open Go.Proofs.YtbbemgeinlehmaaGreatDoor.Dig

set_option maxRecDepth 100000 in
set_option maxHeartbeats 2000000 in
theorem divmod_diff1 (A0 A1 : Option Addr) (c0 c1 : Nat) (na nb : Bool) (xs ys : List Nat) (w : World) (hx : Row w (.slice A0 xs.length c0) xs) (hy : Row w (.slice A1 ys.length c1) ys) (lx : xs.length ≤ 1000) (ly : ys.length ≤ 1000)
    (r1 : srightB na xs = true) (r2 : srightB nb ys = true) (h0 : ys.length ≠ 0) (hs : (na == nb) = false) {dq dr pq pr : List Nat} (eq : digs (num xs / num ys) = dq) (er : digs (num xs % num ys) = dr) (lq : dq.length ≤ 1000) (hr0 : dr.length ≠ 0) (ep : digs (num dq + 1) = pq) (em : digs (num ys - num dr) = pr) (lp : pq.length ≤ 256) (lm : pr.length ≤ 1000) (ln : dr.length ≤ ys.length) (hle : num dr ≤ num ys)  :
    Calls Tryz.prog 54 #[sv na (.slice A0 xs.length c0), sv nb (.slice A1 ys.length c1)] w (RetQR (signB true pq, pq) (signB nb pr, pr) 0 w) := by
  have H := Lib.hid (And.intro hx hy)
  have LL := Lib.hid (And.intro (And.intro lx ly) lp)
  have LQ := Lib.hid (And.intro lq lm)
  have LN := Lib.hid (And.intro ln hle)
  have EP := Lib.hid (show digs (num dq + num [1]) = pq by rw [num_one]; exact ep)
  have EM := Lib.hid em
  have hz3 : decide (0 < dr.length) = true := by rw [decide_eq_true_iff]; omega
  have ONE := Lib.hid (show ∀ W : World, Row (W.alloc (.cells #[.int .u32 1] 88)) (.slice (some ⟨W.heap.size, 0, none⟩) 1 1) [1] from fun W => row_one W 88 1 (by omega))
  have R1 := Lib.hid r1
  have R2 := Lib.hid r2
  have DM := Lib.hid (fun (W : World) (gx : Row W (.slice A0 xs.length c0) xs) (gy : Row W (.slice A1 ys.length c1) ys) => divmod2 A0 A1 c0 c1 xs ys W gx gy lx ly (sright_right r1) (sright_right r2) h0 eq er)
  have hz : ((ys.length : Int) == 0) = false := by rw [beq_eq_false_iff_ne]; omega
  clear hx hy lx ly lq r1 r2 h0 eq er lp lm ln hle ep em hr0
  obtain ⟨n0, hn0⟩ : ∃ n, n = xs.length := ⟨_, rfl⟩
  obtain ⟨n1, hn1⟩ : ∃ n, n = ys.length := ⟨_, rfl⟩
  rw [← hn0] at H DM ⊢
  rw [← hn1] at H DM hz ⊢
  clear hn0 hn1
  obtain ⟨W0, hW0⟩ : ∃ W0, W0 = frame4 w na nb (.slice A0 n0 c0) (.slice A1 n1 c1) 24 := ⟨_, rfl⟩
  have hW1 := hW0
  unfold frame4 at hW1
  have HW := Lib.hid hW1
  clear hW1
  have hold : Hid (∀ W : World, Since W0 W → (W.cell? ⟨w.heap.size, 0, none⟩ = some (.bool na) ∧ W.cell? ⟨w.heap.size, 1, none⟩ = some (.slice A0 n0 c0) ∧ W.cell? ⟨w.heap.size + 1, 0, none⟩ = some (.bool nb) ∧ W.cell? ⟨w.heap.size + 1, 1, none⟩ = some (.slice A1 n1 c1)) ∧ Since w W) := fun W h => ⟨frame4_in (hW0 ▸ h), by rw [hW0] at h; exact (frame4_since _ _ _ _ _ _).trans h⟩
  have hk4 : Hid (∀ W : World, Since W0 W → _) := fun W h => frame4_out (hW0 ▸ h)
  have hb4 : Hid (∀ W : World, Since W0 W → Since (frame4 w na nb (.slice A0 n0 c0) (.slice A1 n1 c1) 24) W) := fun W h => hW0 ▸ h
  have hS0 : Since w W0 := by rw [hW0]; exact frame4_since _ _ _ _ _ _
  clear hW0
  have hK := Since.refl W0
  go_enter Tryz.func54, Tryz.ntmps54
  go_wp2_with fail
  rw [← HW.out]
  go_wp2_with (first
    | (go_at_call 61; (with_reducible refine (right_any (.slice A0 n0 c0) na xs _ (H.out.1.since (hS0.trans hK)) (by have := LL.out; omega)).mono ?_); rw [R1.out]; rintro e w1 ⟨rfl, h1⟩; have hK := hK.trans h1; obtain ⟨⟨k0, k1, k2, k3⟩, _⟩ := hold.out _ hK)
    | (go_at_call 61; (with_reducible refine (right_any (.slice A1 n1 c1) nb ys _ (H.out.2.since (hS0.trans hK)) (by have := LL.out; omega)).mono ?_); rw [R2.out]; rintro e w2 ⟨rfl, h2⟩; have hK := hK.trans h2; obtain ⟨⟨k0, k1, k2, k3⟩, _⟩ := hold.out _ hK)
    | (go_at_call 81; (with_reducible refine (DM.out _ (H.out.1.since (hS0.trans hK)) (H.out.2.since (hS0.trans hK))).mono ?_); rintro e w3 ⟨A2, c2, A3, c3, rfl, hq, hr, h3⟩; have hr := Lib.hid hr; have hK := hK.trans h3; obtain ⟨⟨k0, k1, k2, k3⟩, _⟩ := hold.out _ hK)
    | (go_at_call 75; (with_reducible refine ((Ref02.plus_any (.slice A2 dq.length c2) (.slice (some ⟨w3.heap.size, 0, none⟩) 1 1) dq [1] _ (hq.since (since_alloc _ _)) (ONE.out w3) (by have := LQ.out; omega) (by simp)).mono fun _ _ h => RetRow.sl h).mono ?_); rw [EP.out]; rintro e wp ⟨Ap, cp, rfl, hp, hp0⟩; have hs3 := (since_alloc _ _).trans hp0; have hr := Lib.hid (hr.out.since hs3); have hK := hK.trans hs3; obtain ⟨⟨k0, k1, k2, k3⟩, _⟩ := hold.out _ hK)
    | (go_at_call 77; (with_reducible refine ((Ref02.minus_any (.slice A1 n1 c1) (.slice A3 dr.length c3) ys dr _ (H.out.2.since (hS0.trans hK)) hr.out (by have := LL.out; omega) LN.out.1 LN.out.2).mono fun _ _ h => RetRow.sl h).mono ?_); rw [EM.out]; rintro e wm ⟨Am, cm, rfl, hm, hm0⟩; have hp := hp.since hm0; have hK := hK.trans hm0; obtain ⟨⟨k0, k1, k2, k3⟩, _⟩ := hold.out _ hK)
    | (go_at_call 74; (with_reducible refine (made_any (.slice Ap pq.length cp) true pq _ hp (by have := LL.out; omega)).mono ?_); rintro e w4 ⟨rfl, h4⟩; have hK := hK.trans h4; obtain ⟨⟨k0, k1, k2, k3⟩, _⟩ := hold.out _ hK)
    | (go_at_call 82; (with_reducible refine (fit_any Ap cp (signB true pq) pq _ (hp.since h4) (by have := LL.out; omega)).mono ?_); rw [if_pos LL.out.2]; rintro e w5 ⟨A4, c4, rfl, hf, h5⟩; have hK := hK.trans h5; obtain ⟨⟨k0, k1, k2, k3⟩, _⟩ := hold.out _ hK))
  obtain ⟨W1, hW1⟩ : ∃ W1, W1 = w5.alloc (.cells #[.bool (signB true pq), .slice A4 pq.length c4] 24) := ⟨_, rfl⟩
  rw [← hW1]
  have hs1 : Since w5 W1 := by rw [hW1]; exact since_alloc _ _
  have hsz : w.heap.size + 1 + 1 + 1 + 1 ≤ w5.heap.size := by
    have h := (hb4.out _ hK).size
    simpa [frame4] using h
  have hold1 : Hid (∀ W : World, Since W1 W → (W.cell? ⟨w5.heap.size, 0, none⟩ = some (.bool (signB true pq)) ∧ W.cell? ⟨w5.heap.size, 1, none⟩ = some (.slice A4 pq.length c4) ∧ W.cell? ⟨w.heap.size + 1, 0, none⟩ = some (.bool nb)) ∧ Since w W) := fun W h => ⟨⟨(keep2 (hW1 ▸ h)).1, (keep2 (hW1 ▸ h)).2.1, (hold.out _ (hK.trans (hs1.trans h))).1.2.2.1⟩, (hold.out _ (hK.trans (hs1.trans h))).2⟩
  have hn1 : w5.heap.size ≠ w.heap.size + 1 + 1 := by omega
  have hn2 : w5.heap.size ≠ w.heap.size + 1 + 1 + 1 := by omega
  have hn3 : w.heap.size + 1 + 1 ≠ w5.heap.size := by omega
  have hn4 : w.heap.size + 1 + 1 + 1 ≠ w5.heap.size := by omega
  have hr4 : Row W1 (.slice Am pr.length cm) pr := ((hm.since h4).since h5).since hs1
  have hf4 := hf.since hs1
  have hK1 := hK.trans hs1
  have hR := Since.refl W1
  clear hW1 hsz hm hf
  have hh : Hid (∀ W : World, (W.cell? ⟨w5.heap.size, 0, none⟩ = some (.bool (signB true pq)) ∧ W.cell? ⟨w5.heap.size, 1, none⟩ = some (.slice A4 pq.length c4) ∧ W.cell? ⟨w.heap.size + 1, 0, none⟩ = some (.bool nb)) ∧ Since w W → Since w W) := fun W h => h.2
  go_region_held3 (fun W => (W.cell? ⟨w5.heap.size, 0, none⟩ = some (.bool (signB true pq)) ∧ W.cell? ⟨w5.heap.size, 1, none⟩ = some (.slice A4 pq.length c4) ∧ W.cell? ⟨w.heap.size + 1, 0, none⟩ = some (.bool nb)) ∧ Since w W)
    (first | exact hold1.out _ ‹Since W1 _› | exact hold1.out _ (Since.drew ‹Since W1 _›) | exact ⟨by go_simp, by repeat (first | assumption | refine Since.set ?_ (by simp <;> omega) _)⟩)
    (first
      | (go_at_call 74; (with_reducible refine (made_any (.slice Am pr.length cm) nb pr _ (hr4.since (Since.drew (Since.refl _))) (by have := LQ.out; omega)).mono ?_); rintro e w6 ⟨rfl, h6⟩; have hs6 := (Since.drew (Since.refl W1)).trans h6; have hK6 := hK1.trans hs6; have hq6 := hf4.since hs6; have hr6 := hr4.since hs6; have hS6 := (hold.out _ hK6).2; obtain ⟨⟨q0, q1, q2, q3⟩, p0, p1, p2, p3⟩ := hk4.out _ hK6))
  go_wp2
  refine bodyPost_ret (v := .tuple #[sv (signB true pq) (.slice A4 pq.length c4), sv (signB nb pr) (.slice Am pr.length cm), .int .i64 0]) ?_ rfl ?_
  · simp [results, Tryz.results54, go_sem, q0, q1, p0, p1]
  · exact ⟨_, _, _, _, rfl, row_set4 hq6 (hb4.out _ hK6) _ _ _ _, row_set4 hr6 (hb4.out _ hK6) _ _ _ _, since_set4 (hb4.out _ hK6) _ _ _ _⟩
end Go.Proofs.YtbbemgeinlehmaaGreatDoor.Ref03

namespace Go.Proofs.YtbbemgeinlehmaaGreatDoor.Ref03
open Go.RowKit
set_option linter.unusedVariables false
open Go.Proofs.YtbbemgeinlehmaaGreatDoor.Dig

set_option maxRecDepth 100000 in
set_option maxHeartbeats 2000000 in
theorem divmod_bad (A0 A1 : Option Addr) (c0 c1 : Nat) (na nb : Bool) (xs ys : List Nat) (w : World) (hx : Row w (.slice A0 xs.length c0) xs) (hy : Row w (.slice A1 ys.length c1) ys) (lx : xs.length ≤ 1000) (ly : ys.length ≤ 1000)
    (hbad : ¬((srightB na xs = true ∧ srightB nb ys = true) ∧ ys.length ≠ 0)) :
    Calls Tryz.prog 54 #[sv na (.slice A0 xs.length c0), sv nb (.slice A1 ys.length c1)] w (RetQR (false, []) (false, []) 2 w) := by
  have H := Lib.hid (And.intro hx hy)
  have LL := Lib.hid (And.intro lx ly)
  have hcase : srightB na xs = false ∨ (srightB na xs = true ∧ srightB nb ys = false) ∨ (srightB na xs = true ∧ srightB nb ys = true ∧ ys.length = 0) := by
    cases h1 : srightB na xs
    · exact .inl rfl
    · cases h2 : srightB nb ys
      · exact .inr (.inl ⟨rfl, rfl⟩)
      · exact .inr (.inr ⟨rfl, rfl, Decidable.byContradiction fun h => hbad ⟨⟨h1, h2⟩, h⟩⟩)
  clear hx hy lx ly hbad
  obtain ⟨n0, hn0⟩ : ∃ n, n = xs.length := ⟨_, rfl⟩
  obtain ⟨n1, hn1⟩ : ∃ n, n = ys.length := ⟨_, rfl⟩
  rw [← hn0] at H ⊢
  rw [← hn1] at H hcase ⊢
  clear hn0 hn1
  obtain ⟨W0, hW0⟩ : ∃ W0, W0 = frame4 w na nb (.slice A0 n0 c0) (.slice A1 n1 c1) 24 := ⟨_, rfl⟩
  have hW1 := hW0
  unfold frame4 at hW1
  have HW := Lib.hid hW1
  clear hW1
  have hold : Hid (∀ W : World, Since W0 W → (W.cell? ⟨w.heap.size, 0, none⟩ = some (.bool na) ∧ W.cell? ⟨w.heap.size, 1, none⟩ = some (.slice A0 n0 c0) ∧ W.cell? ⟨w.heap.size + 1, 0, none⟩ = some (.bool nb) ∧ W.cell? ⟨w.heap.size + 1, 1, none⟩ = some (.slice A1 n1 c1)) ∧ Since w W) := fun W h => ⟨frame4_in (hW0 ▸ h), by rw [hW0] at h; exact (frame4_since _ _ _ _ _ _).trans h⟩
  have hk4 : Hid (∀ W : World, Since W0 W → _) := fun W h => frame4_out (hW0 ▸ h)
  have hb4 : Hid (∀ W : World, Since W0 W → Since (frame4 w na nb (.slice A0 n0 c0) (.slice A1 n1 c1) 24) W) := fun W h => hW0 ▸ h
  have hS0 : Since w W0 := by rw [hW0]; exact frame4_since _ _ _ _ _ _
  clear hW0
  have hK := Since.refl W0
  rcases hcase with r1 | ⟨r1, r2⟩ | ⟨r1, r2, h0⟩
  · have R1 := Lib.hid r1
    clear r1
    go_enter Tryz.func54, Tryz.ntmps54
    go_wp2_with fail
    rw [← HW.out]
    go_wp2_with (first
      | (go_at_call 61; (with_reducible refine (right_any (.slice A0 n0 c0) na xs _ (H.out.1.since (hS0.trans hK)) (by have := LL.out; omega)).mono ?_); rw [R1.out]; rintro e w1 ⟨rfl, h1⟩; have hK := hK.trans h1; obtain ⟨⟨k0, k1, k2, k3⟩, _⟩ := hold.out _ hK; obtain ⟨⟨q0, q1, q2, q3⟩, p0, p1, p2, p3⟩ := hk4.out _ hK))
    refine bodyPost_ret (v := .tuple #[sv false (.slice none 0 0), sv false (.slice none 0 0), .int .i64 2]) ?_ rfl ?_
    · simp [results, Tryz.results54, go_sem, q0, q1, p0, p1]
    · exact ⟨_, _, _, _, rfl, Row.nil _, Row.nil _, since_set4 (hb4.out _ hK) _ _ _ _⟩
  · have R1 := Lib.hid r1
    have R2 := Lib.hid r2
    clear r1 r2
    go_enter Tryz.func54, Tryz.ntmps54
    go_wp2_with fail
    rw [← HW.out]
    go_wp2_with (first
      | (go_at_call 61; (with_reducible refine (right_any (.slice A0 n0 c0) na xs _ (H.out.1.since (hS0.trans hK)) (by have := LL.out; omega)).mono ?_); rw [R1.out]; rintro e w1 ⟨rfl, h1⟩; have hK := hK.trans h1; obtain ⟨⟨k0, k1, k2, k3⟩, _⟩ := hold.out _ hK; obtain ⟨⟨q0, q1, q2, q3⟩, p0, p1, p2, p3⟩ := hk4.out _ hK)
      | (go_at_call 61; (with_reducible refine (right_any (.slice A1 n1 c1) nb ys _ (H.out.2.since (hS0.trans hK)) (by have := LL.out; omega)).mono ?_); rw [R2.out]; rintro e w2 ⟨rfl, h2⟩; have hK := hK.trans h2; obtain ⟨⟨k0, k1, k2, k3⟩, _⟩ := hold.out _ hK; obtain ⟨⟨q0, q1, q2, q3⟩, p0, p1, p2, p3⟩ := hk4.out _ hK))
    refine bodyPost_ret (v := .tuple #[sv false (.slice none 0 0), sv false (.slice none 0 0), .int .i64 2]) ?_ rfl ?_
    · simp [results, Tryz.results54, go_sem, q0, q1, p0, p1]
    · exact ⟨_, _, _, _, rfl, Row.nil _, Row.nil _, since_set4 (hb4.out _ hK) _ _ _ _⟩
  · have R1 := Lib.hid r1
    have R2 := Lib.hid r2
    subst h0
    clear r1 r2
    go_enter Tryz.func54, Tryz.ntmps54
    go_wp2_with fail
    rw [← HW.out]
    go_wp2_with (first
      | (go_at_call 61; (with_reducible refine (right_any (.slice A0 n0 c0) na xs _ (H.out.1.since (hS0.trans hK)) (by have := LL.out; omega)).mono ?_); rw [R1.out]; rintro e w1 ⟨rfl, h1⟩; have hK := hK.trans h1; obtain ⟨⟨k0, k1, k2, k3⟩, _⟩ := hold.out _ hK; obtain ⟨⟨q0, q1, q2, q3⟩, p0, p1, p2, p3⟩ := hk4.out _ hK)
      | (go_at_call 61; (with_reducible refine (right_any (.slice A1 0 c1) nb ys _ (H.out.2.since (hS0.trans hK)) (by have := LL.out; omega)).mono ?_); rw [R2.out]; rintro e w2 ⟨rfl, h2⟩; have hK := hK.trans h2; obtain ⟨⟨k0, k1, k2, k3⟩, _⟩ := hold.out _ hK; obtain ⟨⟨q0, q1, q2, q3⟩, p0, p1, p2, p3⟩ := hk4.out _ hK))
    refine bodyPost_ret (v := .tuple #[sv false (.slice none 0 0), sv false (.slice none 0 0), .int .i64 2]) ?_ rfl ?_
    · simp [results, Tryz.results54, go_sem, q0, q1, p0, p1]
    · exact ⟨_, _, _, _, rfl, Row.nil _, Row.nil _, since_set4 (hb4.out _ hK) _ _ _ _⟩
theorem divmod_any (A0 A1 : Option Addr) (c0 c1 : Nat) (na nb : Bool) (xs ys : List Nat) (w : World) (hx : Row w (.slice A0 xs.length c0) xs) (hy : Row w (.slice A1 ys.length c1) ys) (lx : xs.length ≤ 1000) (ly : ys.length ≤ 1000) :
    Calls Tryz.prog 54 #[sv na (.slice A0 xs.length c0), sv nb (.slice A1 ys.length c1)] w (RetQR (divZ na xs nb ys).1.1 (divZ na xs nb ys).1.2 (divZ na xs nb ys).2 w) := by
  by_cases hg : (srightB na xs = true ∧ srightB nb ys = true) ∧ ys.length ≠ 0
  · obtain ⟨⟨r1, r2⟩, h0⟩ := hg
    have dx := hx.dig
    have dy := hy.dig
    have nx := right_norm (sright_right r1)
    have ny := right_norm (sright_right r2)
    have hY := num_pos ny.2 h0
    have EV : divZ na xs nb ys = (((ngB ((sgn na (num xs)).fdiv (sgn nb (num ys))), mag ((sgn na (num xs)).fdiv (sgn nb (num ys)))), (ngB ((sgn na (num xs)).fmod (sgn nb (num ys))), mag ((sgn na (num xs)).fmod (sgn nb (num ys))))), 0) := by
      rw [divZ, if_pos ⟨⟨r1, r2⟩, h0⟩]; rfl
    have lq : (digs (num xs / num ys)).length ≤ 256 := Nat.le_trans (Nat.le_trans (digs_len_mono (Nat.div_le_self _ _)) (digs_len_num dx)) nx.1
    have lr : (digs (num xs % num ys)).length ≤ ys.length := Nat.le_trans (digs_len_mono (Nat.le_of_lt (Nat.mod_lt _ hY))) (digs_len_num dy)
    cases hs : (na == nb)
    · by_cases hr : num xs % num ys = 0
      · obtain ⟨e1, e2⟩ := floor_diff0 (a := na) (b := nb) (X := num xs) hY hs hr
        have h := divmod_diff0 A0 A1 c0 c1 na nb xs ys w hx hy lx ly r1 r2 h0 hs rfl (by rw [hr]; rfl) lq
        have g1 := ng_sgn true (num xs / num ys)
        have t1 : sgn true (num xs / num ys) = -((num xs / num ys : Nat) : Int) := by simp [sgn]
        rw [t1] at g1
        rw [EV, e1, e2, ← g1.1, ← g1.2, show ngB 0 = signB nb [] from by simp [ngB, signB], show mag 0 = [] from rfl]
        exact h
      · obtain ⟨e1, e2⟩ := floor_diff1 (a := na) (b := nb) (X := num xs) hY hs hr
        have hlt := Nat.mod_lt (num xs) hY
        have hfit : (digs (num xs / num ys + 1)).length ≤ 256 := by
          refine Nat.le_trans (Nat.le_trans (digs_len_mono (b := num xs) ?_) (digs_len_num dx)) nx.1
          have h1 := Nat.div_add_mod (num xs) (num ys)
          rcases Nat.lt_or_ge 1 (num ys) with h | h
          · have h3 := Nat.mul_le_mul_right (num xs / num ys) (show 2 ≤ num ys from h)
            omega
          · have : num ys = 1 := by omega
            rw [this, Nat.mod_one] at hr; exact absurd rfl hr
        have h := divmod_diff1 A0 A1 c0 c1 na nb xs ys w hx hy lx ly r1 r2 h0 hs rfl rfl (by omega) (by
            intro hz; apply hr; have := num_digs (num xs % num ys); rw [List.eq_nil_of_length_eq_zero hz] at this; exact this.symm)
          rfl rfl (by rw [num_digs]; exact hfit) (by
            rw [num_digs]; exact Nat.le_trans (Nat.le_trans (digs_len_mono (Nat.sub_le _ _)) (digs_len_num dy)) (by omega)) lr (by rw [num_digs]; omega)
        rw [num_digs, num_digs] at h
        have g1 := ng_sgn true (num xs / num ys + 1)
        have t1 : sgn true (num xs / num ys + 1) = -((num xs / num ys + 1 : Nat) : Int) := by simp [sgn]
        rw [t1] at g1
        have g2 := ng_sgn nb (num ys - num xs % num ys)
        rw [EV, e1, e2, ← g1.1, ← g1.2, ← g2.1, ← g2.2]
        exact h
    · have hab : na = nb := by simpa using hs
      obtain ⟨e1, e2⟩ := floor_same (b := nb) (X := num xs) hY
      have h := divmod_same A0 A1 c0 c1 na nb xs ys w hx hy lx ly r1 r2 h0 hs rfl rfl (by omega) (by omega)
      have g1 := ng_sgn false (num xs / num ys)
      have t1 : sgn false (num xs / num ys) = ((num xs / num ys : Nat) : Int) := by simp [sgn]
      rw [t1] at g1
      have g2 := ng_sgn nb (num xs % num ys)
      rw [EV, hab, e1, e2, ← g1.1, ← g1.2, ← g2.1, ← g2.2]
      rw [hab] at h
      exact h
  · have EV : divZ na xs nb ys = (((false, []), (false, [])), 2) := by rw [divZ, if_neg hg]
    rw [EV]
    exact divmod_bad A0 A1 c0 c1 na nb xs ys w hx hy lx ly hg
end Go.Proofs.YtbbemgeinlehmaaGreatDoor.Ref03
