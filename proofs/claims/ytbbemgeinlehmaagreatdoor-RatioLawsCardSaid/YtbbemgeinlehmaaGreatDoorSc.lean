/- What awayFromZero of package signed gives back. What DivMod of package signed gives back, where nothing is to be put right. What DivMod of package signed gives back, where the quotient is to be put right. What DivMod of package signed gives back, whole. What gcdSmall and gcd of package signed give back. What Gcd of package signed gives back. -/
import Derived.Test.YtbbemgeinlehmaaGreatDoorSb
import Derived.Test.YtbbemgeinlehmaaGreatDoorNe
import Derived.Test.YtbbemgeinlehmaaGreatDoorNc
import Derived.Deep.RegionHeld3
import Derived.Deep.QuietTactic
import Derived.BigQuiet
namespace Go.Proofs.YtbbemgeinlehmaaGreatDoor.Sg03
open Go.RowKit
set_option linter.unusedVariables false
open Go.Proofs.YtbbemgeinlehmaaGreatDoor.Dig
open Go.Proofs.YtbbemgeinlehmaaGreatDoor.Ref03


theorem digs_one : digs 1 = [1] := by rw [digs_pos (by omega)]; rfl
theorem of_one (w : World) : Calls Tryz.prog 68 #[.int .u64 1] w fun e w' => ∃ A c, e = .returned (.slice A 1 c) ∧ Row w' (.slice A 1 c) [1] ∧ Since w w' := by
  have h := Nat02.of_any 1 w (by omega)
  rw [digs_one] at h
  exact h.mono fun _ _ k => RetRow.sl k
/-- ends with two slices that are seen as such, and an error -/
def RetSl2 (q r : List Nat) (x : Int) (w : World) (e : Ending) (w' : World) : Prop :=
  ∃ A c B d, e = .returned (.tuple #[.slice A q.length c, .slice B r.length d, .int .i64 x]) ∧ Row w' (.slice A q.length c) q ∧ Row w' (.slice B r.length d) r ∧ Since w w'
theorem dm_at (va vb : Value) (xs ys : List Nat) (w : World) (hx : Row w va xs) (hy : Row w vb ys) (lx : xs.length ≤ 10000) (ly : ys.length ≤ 10000) {q r : List Nat} {x : Int} (hq : divQ xs ys = q) (hr : divR xs ys = r) (he : divE xs ys = x) :
    Calls Tryz.prog 95 #[va, vb] w (RetSl2 q r x w) := by
  refine (Nat02.divmod_any va vb xs ys w hx hy lx ly).mono ?_
  rintro e w' ⟨v1, v2, rfl, h1, h2, hs⟩
  rw [hq] at h1
  rw [hr] at h2
  rw [he]
  obtain ⟨d1, A, c, rfl, h3, h6⟩ := h1
  obtain ⟨d2, B, d, rfl, h4, h7⟩ := h2
  exact ⟨A, c, B, d, rfl, ⟨d1, A, c, rfl, h3, h6⟩, ⟨d2, B, d, rfl, h4, h7⟩, hs⟩
set_option maxRecDepth 100000 in
set_option maxHeartbeats 1000000 in
theorem away_any (A0 A1 A2 : Option Addr) (c0 c1 c2 : Nat) (qs rs ys : List Nat) (w : World) (hq : Row w (.slice A0 qs.length c0) qs) (hr : Row w (.slice A1 rs.length c1) rs) (hy : Row w (.slice A2 ys.length c2) ys)
    (g0 : rightB qs = true) (g1 : rightB rs = true) (g2 : rightB ys = true) (hle : num rs ≤ num ys) (hfit : (digs (num qs + 1)).length ≤ 256) :
    Calls Tryz.prog 96 #[.slice A0 qs.length c0, .slice A1 rs.length c1, .slice A2 ys.length c2] w (RetSl2 (digs (num qs + 1)) (digs (num ys - num rs)) 0 w) := by
  have H := Lib.hid (And.intro hq (And.intro hr hy))
  have LL := Lib.hid (And.intro (right_norm g0).1 (And.intro (right_norm g1).1 (right_norm g2).1))
  have HA := Lib.hid (show addD qs [1] = (digs (num qs + 1), 0) by
    have e : rightB [1] = true := by simp [rightB]
    rw [show addD qs [1] = _ from if_pos ⟨g0, e⟩, num_one, fitD, if_pos hfit])
  have HS := Lib.hid (show subD ys rs = (digs (num ys - num rs), 0) from if_pos ⟨⟨g2, g1⟩, hle⟩)
  obtain ⟨pq, hp⟩ : ∃ pq, pq = digs (num qs + 1) := ⟨_, rfl⟩
  obtain ⟨pr, hpr⟩ : ∃ pr, pr = digs (num ys - num rs) := ⟨_, rfl⟩
  rw [← hp] at HA ⊢
  rw [← hpr] at HS ⊢
  clear hq hr hy g0 g1 g2 hle hfit hp hpr
  go_enter Tryz.func96, Tryz.ntmps96
  go_wp2_with (first
    | (go_at_call 68; (with_reducible refine (of_one _).mono ?_); rintro e w1 ⟨B, b, rfl, ho, h⟩; have hK := h)
    | (go_at_call 71; (with_reducible refine (add_at (.slice A0 qs.length c0) (.slice B 1 b) qs [1] _ (H.out.1.since hK) ho (by have := LL.out; omega) (by simp) HA.out).mono ?_); rintro e w2 ⟨C, c, rfl, hp, h⟩; have hK := hK.trans h)
    | (go_at_call 91; (with_reducible refine (sub_at (.slice A2 ys.length c2) (.slice A1 rs.length c1) ys rs _ (H.out.2.2.since hK) (H.out.2.1.since hK) (by have := LL.out; omega) (by have := LL.out; omega) HS.out).mono ?_); rintro e w3 ⟨E, f, rfl, hm, h⟩; have hp := hp.since h; have hK := hK.trans h))
  exact bodyPost_ret (v := .tuple #[.slice C pq.length c, .slice E pr.length f, .int .i64 0]) (by simp [results, Tryz.results96, go_sem]) rfl ⟨_, _, _, _, rfl, hp, hm, hK⟩

theorem away_at (A0 A1 A2 : Option Addr) (c0 c1 c2 : Nat) (qs rs ys : List Nat) (n : Nat) (w : World) (hq : Row w (.slice A0 qs.length c0) qs) (hr : Row w (.slice A1 rs.length c1) rs) (hy : Row w (.slice A2 n c2) ys)
    (g0 : rightB qs = true) (g1 : rightB rs = true) (g2 : rightB ys = true) (hle : num rs ≤ num ys) (hfit : (digs (num qs + 1)).length ≤ 256) {p q : List Nat} (hp : digs (num qs + 1) = p) (hm : digs (num ys - num rs) = q) :
    Calls Tryz.prog 96 #[.slice A0 qs.length c0, .slice A1 rs.length c1, .slice A2 n c2] w (RetSl2 p q 0 w) := by
  obtain rfl : n = ys.length := by obtain ⟨_, A, c, e, _⟩ := hy; injection e
  have h := away_any A0 A1 A2 c0 c1 c2 qs rs ys w hq hr hy g0 g1 g2 hle hfit
  rwa [hp, hm] at h

end Go.Proofs.YtbbemgeinlehmaaGreatDoor.Sg03

namespace Go.Proofs.YtbbemgeinlehmaaGreatDoor.Sg03
open Go.RowKit
set_option linter.unusedVariables false
open Go.Proofs.YtbbemgeinlehmaaGreatDoor.Dig
open Go.Proofs.YtbbemgeinlehmaaGreatDoor.Ref03

set_option maxRecDepth 100000 in
set_option maxHeartbeats 2000000 in
theorem divmod_same (A0 A1 : Option Addr) (c0 c1 : Nat) (na nb : Bool) (xs ys : List Nat) (w : World) (hx : Row w (.slice A0 xs.length c0) xs) (hy : Row w (.slice A1 ys.length c1) ys) (lx : xs.length ≤ 1000) (ly : ys.length ≤ 1000)
    (r1 : srightB na xs = true) (r2 : srightB nb ys = true) (h0 : ys.length ≠ 0) (hs : (na == nb) = true) {dq dr : List Nat} (eq : digs (num xs / num ys) = dq) (er : digs (num xs % num ys) = dr) (lq : dq.length ≤ 1000) (lr : dr.length ≤ 1000) :
    Calls Tryz.prog 73 #[sv na (.slice A0 xs.length c0), sv nb (.slice A1 ys.length c1)] w (RetQR (signB false dq, dq) (signB nb dr, dr) 0 w) := by
  have R1 := Lib.hid r1
  have R2 := Lib.hid r2
  have g1 := sright_right r1
  have g2 := sright_right r2
  have DM := Lib.hid (show divQ xs ys = dq ∧ divR xs ys = dr ∧ divE xs ys = 0 from ⟨by rw [← eq]; exact if_pos ⟨⟨g1, g2⟩, h0⟩, by rw [← er]; exact if_pos ⟨⟨g1, g2⟩, h0⟩, if_pos ⟨⟨g1, g2⟩, h0⟩⟩)
  have hsg : (!na == nb) = false := by cases na <;> cases nb <;> simp_all
  have LQ := Lib.hid (And.intro lq lr)
  clear r1 r2 h0 hs eq er lq lr g1 g2
  have H := Lib.hid (And.intro hx hy)
  have LL := Lib.hid (And.intro lx ly)
  clear hx hy lx ly
  obtain ⟨n0, hn0⟩ : ∃ n, n = xs.length := ⟨_, rfl⟩
  rw [← hn0] at H ⊢
  obtain ⟨n1, hn1⟩ : ∃ n, n = ys.length := ⟨_, rfl⟩
  rw [← hn1] at H ⊢
  clear hn0 hn1
  obtain ⟨W0, hW0⟩ : ∃ W0, W0 = (((w.alloc (.cells #[.bool na, .slice A0 n0 c0] 29)).alloc (.cells #[.bool nb, .slice A1 n1 c1] 29)).alloc (.cells #[.bool false, .slice none 0 0] 29)).alloc (.cells #[.bool false, .slice none 0 0] 29) := ⟨_, rfl⟩
  have HW := Lib.hid hW0
  have hS0 : Since w W0 := by rw [hW0]; exact ((((Since.refl w).alloc _).alloc _).alloc _).alloc _
  have hold : Hid (∀ W : World, Since W0 W → (W.cell? ⟨w.heap.size, 0, none⟩ = some (.bool na) ∧ W.cell? ⟨w.heap.size, 1, none⟩ = some (.slice A0 n0 c0) ∧ W.cell? ⟨w.heap.size + 1, 0, none⟩ = some (.bool nb) ∧ W.cell? ⟨w.heap.size + 1, 1, none⟩ = some (.slice A1 n1 c1)) ∧ Since w W) := fun W h => ⟨frame4_in (hW0 ▸ h), hS0.trans h⟩
  have hk : Hid (∀ W : World, Since W0 W → _) := fun W h => frame4_out (hW0 ▸ h)
  have hb : Hid (∀ W : World, Since W0 W → Since (frame4 w na nb (.slice A0 n0 c0) (.slice A1 n1 c1) 29) W) := fun W h => by rw [hW0] at h; exact h
  clear hW0
  have hK := Since.refl W0
  go_enter Tryz.func73, Tryz.ntmps73
  go_wp2_with fail
  rw [← HW.out]
  go_wp2_with (first
    | (go_at_call 65; (with_reducible refine (right_any (.slice A0 n0 c0) na xs _ (H.out.1.since (hS0.trans hK)) (by have := LL.out; omega)).mono ?_); rw [R1.out]; rintro e w1 ⟨rfl, h⟩; have hK := hK.trans h; obtain ⟨⟨k0, k1, k2, k3⟩, _⟩ := hold.out _ hK; obtain ⟨⟨q0, q1, q2, q3⟩, p0, p1, p2, p3⟩ := hk.out _ hK)
    | (go_at_call 65; (with_reducible refine (right_any (.slice A1 n1 c1) nb ys _ (H.out.2.since (hS0.trans hK)) (by have := LL.out; omega)).mono ?_); rw [R2.out]; rintro e w2 ⟨rfl, h⟩; have hK := hK.trans h; obtain ⟨⟨k0, k1, k2, k3⟩, _⟩ := hold.out _ hK; obtain ⟨⟨q0, q1, q2, q3⟩, p0, p1, p2, p3⟩ := hk.out _ hK)
    | (go_at_call 95; (with_reducible refine (dm_at (.slice A0 n0 c0) (.slice A1 n1 c1) xs ys _ (H.out.1.since (hS0.trans hK)) (H.out.2.since (hS0.trans hK)) (by have := LL.out; omega) (by have := LL.out; omega) DM.out.1 DM.out.2.1 DM.out.2.2).mono ?_); rintro e w3 ⟨A2, c2, A3, c3, rfl, hq, hr, h⟩; have hK := hK.trans h; obtain ⟨⟨k0, k1, k2, k3⟩, _⟩ := hold.out _ hK; obtain ⟨⟨q0, q1, q2, q3⟩, p0, p1, p2, p3⟩ := hk.out _ hK))
  have hh : Hid (∀ W : World, (W.cell? ⟨w.heap.size, 0, none⟩ = some (.bool na) ∧ W.cell? ⟨w.heap.size, 1, none⟩ = some (.slice A0 n0 c0) ∧ W.cell? ⟨w.heap.size + 1, 0, none⟩ = some (.bool nb) ∧ W.cell? ⟨w.heap.size + 1, 1, none⟩ = some (.slice A1 n1 c1)) ∧ Since w W → Since w W) := fun W h => h.2
  go_region_held3 (fun W => (W.cell? ⟨w.heap.size, 0, none⟩ = some (.bool na) ∧ W.cell? ⟨w.heap.size, 1, none⟩ = some (.slice A0 n0 c0) ∧ W.cell? ⟨w.heap.size + 1, 0, none⟩ = some (.bool nb) ∧ W.cell? ⟨w.heap.size + 1, 1, none⟩ = some (.slice A1 n1 c1)) ∧ Since w W)
    (first | exact hold.out _ ‹Since W0 _› | exact hold.out _ (Since.drew ‹Since W0 _›) | exact ⟨by go_simp, by repeat (first | assumption | refine Since.set ?_ (by simp <;> omega) _)⟩)
    (first
      | (go_at_call 66; (with_reducible refine (number_any (.slice A2 dq.length c2) false dq _ (hq.since (Since.drew (Since.refl _))) (by have := LQ.out; omega)).mono ?_); rintro e x1 ⟨rfl, h4⟩; have hs4 := (Since.drew (Since.refl w3)).trans h4; have hK4 := hK.trans hs4; have hq4 := hq.since hs4; have hr4 := hr.since hs4)
      | (go_at_call 66; (with_reducible refine (number_any (.slice A3 dr.length c3) nb dr _ hr4 (by have := LQ.out; omega)).mono ?_); rintro e x2 ⟨rfl, h5⟩; have hK5 := hK4.trans h5; have hq5 := hq4.since h5; have hr5 := hr4.since h5; have hS5 := (hold.out _ hK5).2; obtain ⟨⟨q0, q1, q2, q3⟩, p0, p1, p2, p3⟩ := hk.out _ hK5))
  go_wp2
  refine bodyPost_ret (v := .tuple #[sv (signB false dq) (.slice A2 dq.length c2), sv (signB nb dr) (.slice A3 dr.length c3), .int .i64 0]) ?_ rfl ?_
  · simp [results, Tryz.results73, go_sem, q0, q1, p0, p1]
  · exact ⟨_, _, _, _, rfl, row_set4 hq5 (hb.out _ hK5) _ _ _ _, row_set4 hr5 (hb.out _ hK5) _ _ _ _, since_set4 (hb.out _ hK5) _ _ _ _⟩

set_option maxRecDepth 100000 in
set_option maxHeartbeats 2000000 in
theorem divmod_diff0 (A0 A1 : Option Addr) (c0 c1 : Nat) (na nb : Bool) (xs ys : List Nat) (w : World) (hx : Row w (.slice A0 xs.length c0) xs) (hy : Row w (.slice A1 ys.length c1) ys) (lx : xs.length ≤ 1000) (ly : ys.length ≤ 1000)
    (r1 : srightB na xs = true) (r2 : srightB nb ys = true) (h0 : ys.length ≠ 0) (hs : (na == nb) = false) {dq : List Nat} (eq : digs (num xs / num ys) = dq) (er : digs (num xs % num ys) = []) (lq : dq.length ≤ 256) :
    Calls Tryz.prog 73 #[sv na (.slice A0 xs.length c0), sv nb (.slice A1 ys.length c1)] w (RetQR (signB true dq, dq) (signB nb [], []) 0 w) := by
  have R1 := Lib.hid r1
  have R2 := Lib.hid r2
  have g1 := sright_right r1
  have g2 := sright_right r2
  have DM := Lib.hid (show divQ xs ys = dq ∧ divR xs ys = [] ∧ divE xs ys = 0 from ⟨by rw [← eq]; exact if_pos ⟨⟨g1, g2⟩, h0⟩, by rw [← er]; exact if_pos ⟨⟨g1, g2⟩, h0⟩, if_pos ⟨⟨g1, g2⟩, h0⟩⟩)
  have hsg : (!na == nb) = true := by cases na <;> cases nb <;> simp_all
  have LQ := Lib.hid lq
  clear r1 r2 h0 hs eq er lq g1 g2
  have H := Lib.hid (And.intro hx hy)
  have LL := Lib.hid (And.intro lx ly)
  clear hx hy lx ly
  obtain ⟨n0, hn0⟩ : ∃ n, n = xs.length := ⟨_, rfl⟩
  rw [← hn0] at H ⊢
  obtain ⟨n1, hn1⟩ : ∃ n, n = ys.length := ⟨_, rfl⟩
  rw [← hn1] at H ⊢
  clear hn0 hn1
  obtain ⟨W0, hW0⟩ : ∃ W0, W0 = (((w.alloc (.cells #[.bool na, .slice A0 n0 c0] 29)).alloc (.cells #[.bool nb, .slice A1 n1 c1] 29)).alloc (.cells #[.bool false, .slice none 0 0] 29)).alloc (.cells #[.bool false, .slice none 0 0] 29) := ⟨_, rfl⟩
  have HW := Lib.hid hW0
  have hS0 : Since w W0 := by rw [hW0]; exact ((((Since.refl w).alloc _).alloc _).alloc _).alloc _
  have hold : Hid (∀ W : World, Since W0 W → (W.cell? ⟨w.heap.size, 0, none⟩ = some (.bool na) ∧ W.cell? ⟨w.heap.size, 1, none⟩ = some (.slice A0 n0 c0) ∧ W.cell? ⟨w.heap.size + 1, 0, none⟩ = some (.bool nb) ∧ W.cell? ⟨w.heap.size + 1, 1, none⟩ = some (.slice A1 n1 c1)) ∧ Since w W) := fun W h => ⟨frame4_in (hW0 ▸ h), hS0.trans h⟩
  have hk : Hid (∀ W : World, Since W0 W → _) := fun W h => frame4_out (hW0 ▸ h)
  have hb : Hid (∀ W : World, Since W0 W → Since (frame4 w na nb (.slice A0 n0 c0) (.slice A1 n1 c1) 29) W) := fun W h => by rw [hW0] at h; exact h
  clear hW0
  have hK := Since.refl W0
  go_enter Tryz.func73, Tryz.ntmps73
  go_wp2_with fail
  rw [← HW.out]
  go_wp2_with (first
    | (go_at_call 65; (with_reducible refine (right_any (.slice A0 n0 c0) na xs _ (H.out.1.since (hS0.trans hK)) (by have := LL.out; omega)).mono ?_); rw [R1.out]; rintro e w1 ⟨rfl, h⟩; have hK := hK.trans h; obtain ⟨⟨k0, k1, k2, k3⟩, _⟩ := hold.out _ hK; obtain ⟨⟨q0, q1, q2, q3⟩, p0, p1, p2, p3⟩ := hk.out _ hK)
    | (go_at_call 65; (with_reducible refine (right_any (.slice A1 n1 c1) nb ys _ (H.out.2.since (hS0.trans hK)) (by have := LL.out; omega)).mono ?_); rw [R2.out]; rintro e w2 ⟨rfl, h⟩; have hK := hK.trans h; obtain ⟨⟨k0, k1, k2, k3⟩, _⟩ := hold.out _ hK; obtain ⟨⟨q0, q1, q2, q3⟩, p0, p1, p2, p3⟩ := hk.out _ hK)
    | (go_at_call 95; (with_reducible refine (dm_at (.slice A0 n0 c0) (.slice A1 n1 c1) xs ys _ (H.out.1.since (hS0.trans hK)) (H.out.2.since (hS0.trans hK)) (by have := LL.out; omega) (by have := LL.out; omega) DM.out.1 DM.out.2.1 DM.out.2.2).mono ?_); rintro e w3 ⟨A2, c2, A3, c3, rfl, hq, hr, h⟩; have hK := hK.trans h; obtain ⟨⟨k0, k1, k2, k3⟩, _⟩ := hold.out _ hK; obtain ⟨⟨q0, q1, q2, q3⟩, p0, p1, p2, p3⟩ := hk.out _ hK))
  have hh : Hid (∀ W : World, (W.cell? ⟨w.heap.size, 0, none⟩ = some (.bool na) ∧ W.cell? ⟨w.heap.size, 1, none⟩ = some (.slice A0 n0 c0) ∧ W.cell? ⟨w.heap.size + 1, 0, none⟩ = some (.bool nb) ∧ W.cell? ⟨w.heap.size + 1, 1, none⟩ = some (.slice A1 n1 c1)) ∧ Since w W → Since w W) := fun W h => h.2
  go_region_held3 (fun W => (W.cell? ⟨w.heap.size, 0, none⟩ = some (.bool na) ∧ W.cell? ⟨w.heap.size, 1, none⟩ = some (.slice A0 n0 c0) ∧ W.cell? ⟨w.heap.size + 1, 0, none⟩ = some (.bool nb) ∧ W.cell? ⟨w.heap.size + 1, 1, none⟩ = some (.slice A1 n1 c1)) ∧ Since w W)
    (first | exact hold.out _ ‹Since W0 _› | exact hold.out _ (Since.drew ‹Since W0 _›) | exact ⟨by go_simp, by repeat (first | assumption | refine Since.set ?_ (by simp <;> omega) _)⟩)
    (first
      | (go_at_call 66; (with_reducible refine (number_any (.slice A2 dq.length c2) true dq _ (hq.since (Since.drew (Since.refl _))) (by have := LQ.out; omega)).mono ?_); rintro e x1 ⟨rfl, h4⟩; have hs4 := (Since.drew (Since.refl w3)).trans h4; have hK4 := hK.trans hs4; have hq4 := hq.since hs4; have hr4 := hr.since hs4)
      | (go_at_call 66; (with_reducible refine (number_any (.slice A3 0 c3) nb ([] : List Nat) _ hr4 (by simp)).mono ?_); rintro e x2 ⟨rfl, h5⟩; have hK5 := hK4.trans h5; have hq5 := hq4.since h5; have hr5 := hr4.since h5; have hS5 := (hold.out _ hK5).2; obtain ⟨⟨q0, q1, q2, q3⟩, p0, p1, p2, p3⟩ := hk.out _ hK5))
  go_wp2
  refine bodyPost_ret (v := .tuple #[sv (signB true dq) (.slice A2 dq.length c2), sv (signB nb ([] : List Nat)) (.slice A3 0 c3), .int .i64 0]) ?_ rfl ?_
  · simp [results, Tryz.results73, go_sem, q0, q1, p0, p1]
  · exact ⟨_, _, _, _, rfl, row_set4 hq5 (hb.out _ hK5) _ _ _ _, row_set4 hr5 (hb.out _ hK5) _ _ _ _, since_set4 (hb.out _ hK5) _ _ _ _⟩

end Go.Proofs.YtbbemgeinlehmaaGreatDoor.Sg03

namespace Go.Proofs.YtbbemgeinlehmaaGreatDoor.Sg03
open Go.RowKit
set_option linter.unusedVariables false
open Go.Proofs.YtbbemgeinlehmaaGreatDoor.Dig
open Go.Proofs.YtbbemgeinlehmaaGreatDoor.Ref03

set_option maxRecDepth 100000 in
set_option maxHeartbeats 2000000 in
theorem divmod_diff1 (A0 A1 : Option Addr) (c0 c1 : Nat) (na nb : Bool) (xs ys : List Nat) (w : World) (hx : Row w (.slice A0 xs.length c0) xs) (hy : Row w (.slice A1 ys.length c1) ys) (lx : xs.length ≤ 1000) (ly : ys.length ≤ 1000)
    (r1 : srightB na xs = true) (r2 : srightB nb ys = true) (h0 : ys.length ≠ 0) (hs : (na == nb) = false) {dq dr pq pr : List Nat} (eq : digs (num xs / num ys) = dq) (er : digs (num xs % num ys) = dr) (lq : dq.length ≤ 256) (hr0 : dr.length ≠ 0) (ep : digs (num dq + 1) = pq) (em : digs (num ys - num dr) = pr) (lp : pq.length ≤ 256) (lm : pr.length ≤ 1000) (ln : dr.length ≤ ys.length) (hle : num dr ≤ num ys) :
    Calls Tryz.prog 73 #[sv na (.slice A0 xs.length c0), sv nb (.slice A1 ys.length c1)] w (RetQR (signB true pq, pq) (signB nb pr, pr) 0 w) := by
  have R1 := Lib.hid r1
  have R2 := Lib.hid r2
  have g1 := sright_right r1
  have g2 := sright_right r2
  have DM := Lib.hid (show divQ xs ys = dq ∧ divR xs ys = dr ∧ divE xs ys = 0 from ⟨by rw [← eq]; exact if_pos ⟨⟨g1, g2⟩, h0⟩, by rw [← er]; exact if_pos ⟨⟨g1, g2⟩, h0⟩, if_pos ⟨⟨g1, g2⟩, h0⟩⟩)
  have hsg : (!na == nb) = true := by cases na <;> cases nb <;> simp_all
  have LQ := Lib.hid (And.intro lp lm)
  have G := Lib.hid (show rightB dq = true ∧ rightB dr = true ∧ rightB ys = true from ⟨right_of lq (eq ▸ norm_digs _), right_of (by have := (right_norm g2).1; omega) (er ▸ norm_digs _), g2⟩)
  have EP := Lib.hid ep
  have EM := Lib.hid em
  have HLE := Lib.hid hle
  have HFIT := Lib.hid (show (digs (num dq + 1)).length ≤ 256 by rw [ep]; exact lp)
  have hz3 : decide (0 < dr.length) = true := by rw [decide_eq_true_iff]; omega
  clear r1 r2 h0 hs eq er lq g1 g2 ep em lp lm ln hle hr0
  have H := Lib.hid (And.intro hx hy)
  have LL := Lib.hid (And.intro lx ly)
  clear hx hy lx ly
  obtain ⟨n0, hn0⟩ : ∃ n, n = xs.length := ⟨_, rfl⟩
  rw [← hn0] at H ⊢
  obtain ⟨n1, hn1⟩ : ∃ n, n = ys.length := ⟨_, rfl⟩
  rw [← hn1] at H ⊢
  clear hn0 hn1
  obtain ⟨W0, hW0⟩ : ∃ W0, W0 = (((w.alloc (.cells #[.bool na, .slice A0 n0 c0] 29)).alloc (.cells #[.bool nb, .slice A1 n1 c1] 29)).alloc (.cells #[.bool false, .slice none 0 0] 29)).alloc (.cells #[.bool false, .slice none 0 0] 29) := ⟨_, rfl⟩
  have HW := Lib.hid hW0
  have hS0 : Since w W0 := by rw [hW0]; exact ((((Since.refl w).alloc _).alloc _).alloc _).alloc _
  have hold : Hid (∀ W : World, Since W0 W → (W.cell? ⟨w.heap.size, 0, none⟩ = some (.bool na) ∧ W.cell? ⟨w.heap.size, 1, none⟩ = some (.slice A0 n0 c0) ∧ W.cell? ⟨w.heap.size + 1, 0, none⟩ = some (.bool nb) ∧ W.cell? ⟨w.heap.size + 1, 1, none⟩ = some (.slice A1 n1 c1)) ∧ Since w W) := fun W h => ⟨frame4_in (hW0 ▸ h), hS0.trans h⟩
  have hk : Hid (∀ W : World, Since W0 W → _) := fun W h => frame4_out (hW0 ▸ h)
  have hb : Hid (∀ W : World, Since W0 W → Since (frame4 w na nb (.slice A0 n0 c0) (.slice A1 n1 c1) 29) W) := fun W h => by rw [hW0] at h; exact h
  clear hW0
  have hK := Since.refl W0
  go_enter Tryz.func73, Tryz.ntmps73
  go_wp2_with fail
  rw [← HW.out]
  go_wp2_with (first
    | (go_at_call 65; (with_reducible refine (right_any (.slice A0 n0 c0) na xs _ (H.out.1.since (hS0.trans hK)) (by have := LL.out; omega)).mono ?_); rw [R1.out]; rintro e w1 ⟨rfl, h⟩; have hK := hK.trans h; obtain ⟨⟨k0, k1, k2, k3⟩, _⟩ := hold.out _ hK; obtain ⟨⟨q0, q1, q2, q3⟩, p0, p1, p2, p3⟩ := hk.out _ hK)
    | (go_at_call 65; (with_reducible refine (right_any (.slice A1 n1 c1) nb ys _ (H.out.2.since (hS0.trans hK)) (by have := LL.out; omega)).mono ?_); rw [R2.out]; rintro e w2 ⟨rfl, h⟩; have hK := hK.trans h; obtain ⟨⟨k0, k1, k2, k3⟩, _⟩ := hold.out _ hK; obtain ⟨⟨q0, q1, q2, q3⟩, p0, p1, p2, p3⟩ := hk.out _ hK)
    | (go_at_call 95; (with_reducible refine (dm_at (.slice A0 n0 c0) (.slice A1 n1 c1) xs ys _ (H.out.1.since (hS0.trans hK)) (H.out.2.since (hS0.trans hK)) (by have := LL.out; omega) (by have := LL.out; omega) DM.out.1 DM.out.2.1 DM.out.2.2).mono ?_); rintro e w3 ⟨A2, c2, A3, c3, rfl, hq, hr, h⟩; have hK := hK.trans h; obtain ⟨⟨k0, k1, k2, k3⟩, _⟩ := hold.out _ hK; obtain ⟨⟨q0, q1, q2, q3⟩, p0, p1, p2, p3⟩ := hk.out _ hK)
    | (go_at_call 96; (with_reducible refine (away_at A2 A3 A1 c2 c3 c1 dq dr ys n1 _ hq hr (H.out.2.since (hS0.trans hK)) G.out.1 G.out.2.1 G.out.2.2 HLE.out HFIT.out EP.out EM.out).mono ?_); rintro e w4 ⟨A4, c4, A5, c5, rfl, hq, hr, h⟩; have hK := hK.trans h; obtain ⟨⟨k0, k1, k2, k3⟩, _⟩ := hold.out _ hK; obtain ⟨⟨q0, q1, q2, q3⟩, p0, p1, p2, p3⟩ := hk.out _ hK))
  have hh : Hid (∀ W : World, (W.cell? ⟨w.heap.size, 0, none⟩ = some (.bool na) ∧ W.cell? ⟨w.heap.size, 1, none⟩ = some (.slice A0 n0 c0) ∧ W.cell? ⟨w.heap.size + 1, 0, none⟩ = some (.bool nb) ∧ W.cell? ⟨w.heap.size + 1, 1, none⟩ = some (.slice A1 n1 c1)) ∧ Since w W → Since w W) := fun W h => h.2
  go_region_held3 (fun W => (W.cell? ⟨w.heap.size, 0, none⟩ = some (.bool na) ∧ W.cell? ⟨w.heap.size, 1, none⟩ = some (.slice A0 n0 c0) ∧ W.cell? ⟨w.heap.size + 1, 0, none⟩ = some (.bool nb) ∧ W.cell? ⟨w.heap.size + 1, 1, none⟩ = some (.slice A1 n1 c1)) ∧ Since w W)
    (first | exact hold.out _ ‹Since W0 _› | exact hold.out _ (Since.drew ‹Since W0 _›) | exact ⟨by go_simp, by repeat (first | assumption | refine Since.set ?_ (by simp <;> omega) _)⟩)
    (first
      | (go_at_call 66; (with_reducible refine (number_any (.slice A4 pq.length c4) true pq _ (hq.since (Since.drew (Since.refl _))) (by have := LQ.out; omega)).mono ?_); rintro e x1 ⟨rfl, h4⟩; have hs4 := (Since.drew (Since.refl w4)).trans h4; have hK4 := hK.trans hs4; have hq4 := hq.since hs4; have hr4 := hr.since hs4)
      | (go_at_call 66; (with_reducible refine (number_any (.slice A5 pr.length c5) nb pr _ hr4 (by have := LQ.out; omega)).mono ?_); rintro e x2 ⟨rfl, h5⟩; have hK5 := hK4.trans h5; have hq5 := hq4.since h5; have hr5 := hr4.since h5; have hS5 := (hold.out _ hK5).2; obtain ⟨⟨q0, q1, q2, q3⟩, p0, p1, p2, p3⟩ := hk.out _ hK5))
  go_wp2
  refine bodyPost_ret (v := .tuple #[sv (signB true pq) (.slice A4 pq.length c4), sv (signB nb pr) (.slice A5 pr.length c5), .int .i64 0]) ?_ rfl ?_
  · simp [results, Tryz.results73, go_sem, q0, q1, p0, p1]
  · exact ⟨_, _, _, _, rfl, row_set4 hq5 (hb.out _ hK5) _ _ _ _, row_set4 hr5 (hb.out _ hK5) _ _ _ _, since_set4 (hb.out _ hK5) _ _ _ _⟩

end Go.Proofs.YtbbemgeinlehmaaGreatDoor.Sg03

namespace Go.Proofs.YtbbemgeinlehmaaGreatDoor.Sg03
open Go.RowKit
set_option linter.unusedVariables false
open Go.Proofs.YtbbemgeinlehmaaGreatDoor.Dig
open Go.Proofs.YtbbemgeinlehmaaGreatDoor.Ref03

set_option maxRecDepth 100000 in
set_option maxHeartbeats 2000000 in
theorem divmod_bad (A0 A1 : Option Addr) (c0 c1 : Nat) (na nb : Bool) (xs ys : List Nat) (w : World) (hx : Row w (.slice A0 xs.length c0) xs) (hy : Row w (.slice A1 ys.length c1) ys) (lx : xs.length ≤ 1000) (ly : ys.length ≤ 1000) (hg : ¬ ((srightB na xs = true ∧ srightB nb ys = true) ∧ ys.length ≠ 0)) :
    Calls Tryz.prog 73 #[sv na (.slice A0 xs.length c0), sv nb (.slice A1 ys.length c1)] w (RetQR (false, []) (false, []) 2 w) := by
  have H := Lib.hid (And.intro hx hy)
  have LL := Lib.hid (And.intro lx ly)
  clear hx hy lx ly
  obtain ⟨n0, hn0⟩ : ∃ n, n = xs.length := ⟨_, rfl⟩
  rw [← hn0] at H ⊢
  obtain ⟨n1, hn1⟩ : ∃ n, n = ys.length := ⟨_, rfl⟩
  rw [← hn1] at H ⊢
  clear hn0 hn1
  obtain ⟨W0, hW0⟩ : ∃ W0, W0 = (((w.alloc (.cells #[.bool na, .slice A0 n0 c0] 29)).alloc (.cells #[.bool nb, .slice A1 n1 c1] 29)).alloc (.cells #[.bool false, .slice none 0 0] 29)).alloc (.cells #[.bool false, .slice none 0 0] 29) := ⟨_, rfl⟩
  have HW := Lib.hid hW0
  have hS0 : Since w W0 := by rw [hW0]; exact ((((Since.refl w).alloc _).alloc _).alloc _).alloc _
  have hold : Hid (∀ W : World, Since W0 W → (W.cell? ⟨w.heap.size, 0, none⟩ = some (.bool na) ∧ W.cell? ⟨w.heap.size, 1, none⟩ = some (.slice A0 n0 c0) ∧ W.cell? ⟨w.heap.size + 1, 0, none⟩ = some (.bool nb) ∧ W.cell? ⟨w.heap.size + 1, 1, none⟩ = some (.slice A1 n1 c1)) ∧ Since w W) := fun W h => ⟨frame4_in (hW0 ▸ h), hS0.trans h⟩
  have hk : Hid (∀ W : World, Since W0 W → _) := fun W h => frame4_out (hW0 ▸ h)
  have hb : Hid (∀ W : World, Since W0 W → Since (frame4 w na nb (.slice A0 n0 c0) (.slice A1 n1 c1) 29) W) := fun W h => by rw [hW0] at h; exact h
  clear hW0
  have hK := Since.refl W0
  by_cases r1 : srightB na xs = true
  · by_cases r2 : srightB nb ys = true
    · have R1 := Lib.hid r1
      have R2 := Lib.hid r2
      have h0 : ¬ ((rightB xs = true ∧ rightB ys = true) ∧ ys.length ≠ 0) := fun h => hg ⟨⟨r1, r2⟩, h.2⟩
      have DM := Lib.hid (show divQ xs ys = [] ∧ divR xs ys = [] ∧ divE xs ys = 2 from ⟨if_neg h0, if_neg h0, if_neg h0⟩)
      clear r1 r2 h0 hg
      go_enter Tryz.func73, Tryz.ntmps73
      go_wp2_with fail
      rw [← HW.out]
      go_wp2_with (first
        | (go_at_call 65; (with_reducible refine (right_any (.slice A0 n0 c0) na xs _ (H.out.1.since (hS0.trans hK)) (by have := LL.out; omega)).mono ?_); rw [R1.out]; rintro e w1 ⟨rfl, h⟩; have hK := hK.trans h; obtain ⟨⟨k0, k1, k2, k3⟩, _⟩ := hold.out _ hK; obtain ⟨⟨q0, q1, q2, q3⟩, p0, p1, p2, p3⟩ := hk.out _ hK)
        | (go_at_call 65; (with_reducible refine (right_any (.slice A1 n1 c1) nb ys _ (H.out.2.since (hS0.trans hK)) (by have := LL.out; omega)).mono ?_); rw [R2.out]; rintro e w2 ⟨rfl, h⟩; have hK := hK.trans h; obtain ⟨⟨k0, k1, k2, k3⟩, _⟩ := hold.out _ hK; obtain ⟨⟨q0, q1, q2, q3⟩, p0, p1, p2, p3⟩ := hk.out _ hK)
        | (go_at_call 95; (with_reducible refine (dm_at (.slice A0 n0 c0) (.slice A1 n1 c1) xs ys _ (H.out.1.since (hS0.trans hK)) (H.out.2.since (hS0.trans hK)) (by have := LL.out; omega) (by have := LL.out; omega) DM.out.1 DM.out.2.1 DM.out.2.2).mono ?_); rintro e w3 ⟨A2, c2, A3, c3, rfl, hq, hr, h⟩; have hK := hK.trans h; obtain ⟨⟨k0, k1, k2, k3⟩, _⟩ := hold.out _ hK; obtain ⟨⟨q0, q1, q2, q3⟩, p0, p1, p2, p3⟩ := hk.out _ hK))
      refine bodyPost_ret (v := .tuple #[sv false (.slice none 0 0), sv false (.slice none 0 0), .int .i64 2]) ?_ rfl ?_
      · simp [results, Tryz.results73, go_sem, q0, q1, p0, p1]
      · exact ⟨_, _, _, _, rfl, Row.nil _, Row.nil _, since_set4 (hb.out _ hK) _ _ _ _⟩
    · have R1 := Lib.hid r1
      have R2 := Lib.hid (show srightB nb ys = false by simpa using r2)
      clear r1 r2 hg
      go_enter Tryz.func73, Tryz.ntmps73
      go_wp2_with fail
      rw [← HW.out]
      go_wp2_with (first
        | (go_at_call 65; (with_reducible refine (right_any (.slice A0 n0 c0) na xs _ (H.out.1.since (hS0.trans hK)) (by have := LL.out; omega)).mono ?_); rw [R1.out]; rintro e w1 ⟨rfl, h⟩; have hK := hK.trans h; obtain ⟨⟨k0, k1, k2, k3⟩, _⟩ := hold.out _ hK; obtain ⟨⟨q0, q1, q2, q3⟩, p0, p1, p2, p3⟩ := hk.out _ hK)
        | (go_at_call 65; (with_reducible refine (right_any (.slice A1 n1 c1) nb ys _ (H.out.2.since (hS0.trans hK)) (by have := LL.out; omega)).mono ?_); rw [R2.out]; rintro e w2 ⟨rfl, h⟩; have hK := hK.trans h; obtain ⟨⟨k0, k1, k2, k3⟩, _⟩ := hold.out _ hK; obtain ⟨⟨q0, q1, q2, q3⟩, p0, p1, p2, p3⟩ := hk.out _ hK))
      refine bodyPost_ret (v := .tuple #[sv false (.slice none 0 0), sv false (.slice none 0 0), .int .i64 2]) ?_ rfl ?_
      · simp [results, Tryz.results73, go_sem, q0, q1, p0, p1]
      · exact ⟨_, _, _, _, rfl, Row.nil _, Row.nil _, since_set4 (hb.out _ hK) _ _ _ _⟩
  · have R1 := Lib.hid (show srightB na xs = false by simpa using r1)
    clear r1 hg
    go_enter Tryz.func73, Tryz.ntmps73
    go_wp2_with fail
    rw [← HW.out]
    go_wp2_with (first
      | (go_at_call 65; (with_reducible refine (right_any (.slice A0 n0 c0) na xs _ (H.out.1.since (hS0.trans hK)) (by have := LL.out; omega)).mono ?_); rw [R1.out]; rintro e w1 ⟨rfl, h⟩; have hK := hK.trans h; obtain ⟨⟨k0, k1, k2, k3⟩, _⟩ := hold.out _ hK; obtain ⟨⟨q0, q1, q2, q3⟩, p0, p1, p2, p3⟩ := hk.out _ hK))
    refine bodyPost_ret (v := .tuple #[sv false (.slice none 0 0), sv false (.slice none 0 0), .int .i64 2]) ?_ rfl ?_
    · simp [results, Tryz.results73, go_sem, q0, q1, p0, p1]
    · exact ⟨_, _, _, _, rfl, Row.nil _, Row.nil _, since_set4 (hb.out _ hK) _ _ _ _⟩

theorem divmod_any (A0 A1 : Option Addr) (c0 c1 : Nat) (na nb : Bool) (xs ys : List Nat) (w : World) (hx : Row w (.slice A0 xs.length c0) xs) (hy : Row w (.slice A1 ys.length c1) ys) (lx : xs.length ≤ 1000) (ly : ys.length ≤ 1000) :
    Calls Tryz.prog 73 #[sv na (.slice A0 xs.length c0), sv nb (.slice A1 ys.length c1)] w (RetQR (divZ na xs nb ys).1.1 (divZ na xs nb ys).1.2 (divZ na xs nb ys).2 w) := by
  by_cases hg : (srightB na xs = true ∧ srightB nb ys = true) ∧ ys.length ≠ 0
  · obtain ⟨⟨r1, r2⟩, h0⟩ := hg
    have dx := hx.dig
    have dy := hy.dig
    have nx := right_norm (sright_right r1)
    have ny := right_norm (sright_right r2)
    have hY := num_pos ny.2 h0
    have EV : divZ na xs nb ys = (((ngB ((sgn na (num xs)).fdiv (sgn nb (num ys))), mag ((sgn na (num xs)).fdiv (sgn nb (num ys)))), (ngB ((sgn na (num xs)).fmod (sgn nb (num ys))), mag ((sgn na (num xs)).fmod (sgn nb (num ys))))), 0) := by
      rw [divZ, if_pos ⟨⟨r1, r2⟩, h0⟩]; rfl
    have lq : (digs (num xs / num ys)).length ≤ 256 := Nat.le_trans (Nat.le_trans (digs_len_mono (Nat.div_le_self _ _)) (digs_len_num dx)) nx.1
    have lr : (digs (num xs % num ys)).length ≤ ys.length := Nat.le_trans (digs_len_mono (Nat.le_of_lt (Nat.mod_lt _ hY))) (digs_len_num dy)
    cases hs : (na == nb)
    · by_cases hr : num xs % num ys = 0
      · obtain ⟨e1, e2⟩ := floor_diff0 (a := na) (b := nb) (X := num xs) hY hs hr
        have h := divmod_diff0 A0 A1 c0 c1 na nb xs ys w hx hy lx ly r1 r2 h0 hs rfl (by rw [hr]; rfl) lq
        have g1 := ng_sgn true (num xs / num ys)
        have t1 : sgn true (num xs / num ys) = -((num xs / num ys : Nat) : Int) := by simp [sgn]
        rw [t1] at g1
        rw [EV, e1, e2, ← g1.1, ← g1.2, show ngB 0 = signB nb [] from by simp [ngB, signB], show mag 0 = [] from rfl]
        exact h
      · obtain ⟨e1, e2⟩ := floor_diff1 (a := na) (b := nb) (X := num xs) hY hs hr
        have hlt := Nat.mod_lt (num xs) hY
        have hfit : (digs (num xs / num ys + 1)).length ≤ 256 := by
          refine Nat.le_trans (Nat.le_trans (digs_len_mono (b := num xs) ?_) (digs_len_num dx)) nx.1
          have h1 := Nat.div_add_mod (num xs) (num ys)
          rcases Nat.lt_or_ge 1 (num ys) with h | h
          · have h3 := Nat.mul_le_mul_right (num xs / num ys) (show 2 ≤ num ys from h)
            omega
          · have : num ys = 1 := by omega
            rw [this, Nat.mod_one] at hr; exact absurd rfl hr
        have h := divmod_diff1 A0 A1 c0 c1 na nb xs ys w hx hy lx ly r1 r2 h0 hs rfl rfl lq (by
            intro hz; apply hr; have := num_digs (num xs % num ys); rw [List.eq_nil_of_length_eq_zero hz] at this; exact this.symm)
          rfl rfl (by rw [num_digs]; exact hfit) (by
            rw [num_digs]; exact Nat.le_trans (Nat.le_trans (digs_len_mono (Nat.sub_le _ _)) (digs_len_num dy)) (by omega)) lr (by rw [num_digs]; omega)
        rw [num_digs, num_digs] at h
        have g1 := ng_sgn true (num xs / num ys + 1)
        have t1 : sgn true (num xs / num ys + 1) = -((num xs / num ys + 1 : Nat) : Int) := by simp [sgn]
        rw [t1] at g1
        have g2 := ng_sgn nb (num ys - num xs % num ys)
        rw [EV, e1, e2, ← g1.1, ← g1.2, ← g2.1, ← g2.2]
        exact h
    · have hab : na = nb := by simpa using hs
      obtain ⟨e1, e2⟩ := floor_same (b := nb) (X := num xs) hY
      have h := divmod_same A0 A1 c0 c1 na nb xs ys w hx hy lx ly r1 r2 h0 hs rfl rfl (by omega) (by omega)
      have g1 := ng_sgn false (num xs / num ys)
      have t1 : sgn false (num xs / num ys) = ((num xs / num ys : Nat) : Int) := by simp [sgn]
      rw [t1] at g1
      have g2 := ng_sgn nb (num xs % num ys)
      rw [EV, hab, e1, e2, ← g1.1, ← g1.2, ← g2.1, ← g2.2]
      rw [hab] at h
      exact h
  · have EV : divZ na xs nb ys = (((false, []), (false, [])), 2) := by rw [divZ, if_neg hg]
    rw [EV]
    exact divmod_bad A0 A1 c0 c1 na nb xs ys w hx hy lx ly hg
end Go.Proofs.YtbbemgeinlehmaaGreatDoor.Sg03

namespace Go.Proofs.YtbbemgeinlehmaaGreatDoor.Sg03
open Go.RowKit
set_option linter.unusedVariables false
open Go.Proofs.YtbbemgeinlehmaaGreatDoor.Dig
open Go.Proofs.YtbbemgeinlehmaaGreatDoor.Ref03


set_option maxHeartbeats 1000000 in
theorem gcd_small (x y : Nat) (w : World) (hx : x < 18446744073709551616) (hy : y < 18446744073709551616) :
    Calls Tryz.prog 108 #[.int .u64 (x : Int), .int .u64 (y : Int)] w fun e w' => e = .returned (.int .u64 ((Nat.gcd x y : Nat) : Int)) ∧ Since w w' := by
  obtain ⟨G, hG⟩ : ∃ G, G = Nat.gcd x y := ⟨_, rfl⟩
  rw [← hG]
  have HG := Lib.hid (show Nat.gcd x y = G ∧ x < 18446744073709551616 ∧ y < 18446744073709551616 from ⟨hG.symm, hx, hy⟩)
  clear hG
  go_enter Tryz.func108, Tryz.ntmps108
  go_wp2
  go_loopw [0, 1] (fun a b wr => ∃ u v : Nat, a = .int .u64 (u : Int) ∧ b = .int .u64 (v : Int) ∧ Hid (Nat.gcd u v = G ∧ u < 18446744073709551616 ∧ v < 18446744073709551616) ∧ Since w wr) (fun _ b _ => (intOf b).toNat)
  case atStart => exact ⟨x, y, rfl, rfl, HG, Since.refl _⟩
  case round =>
    obtain ⟨u, v, rfl, rfl, hg, hw⟩ := hrel
    have HW := Lib.hid hw
    obtain ⟨e1, e2, e3⟩ := hg.out
    by_cases h0 : v = 0
    · subst h0
      rw [Nat.gcd_zero_right] at e1
      subst e1
      go_wp2
      go_ret
      exact ⟨rfl, HW.out⟩
    · have hp : 0 < v := by omega
      have hm := Nat.mod_lt u hp
      have HN := Lib.hid (show Nat.gcd v (u % v) = G ∧ v < 18446744073709551616 ∧ u % v < 18446744073709551616 from ⟨by rw [← e1, Nat.gcd_comm u, Nat.gcd_rec v u, Nat.gcd_comm], e3, by omega⟩)
      have HM := Lib.hid hm
      clear e1 hm
      go_wp2
      go_quiet (fail)
      go_wp2
      go_roundw
      case rel => exact ⟨v, u % v, rfl, by first | rfl | simp | go_num, HN, Since.drewN HW.out _⟩
      case measure => have := HM.out; simp [intOf]; omega

set_option maxRecDepth 100000 in
set_option maxHeartbeats 2000000 in
theorem gcd_row (A0 A1 : Option Addr) (c0 c1 : Nat) (xs ys : List Nat) (w : World) (hx : Row w (.slice A0 xs.length c0) xs) (hy : Row w (.slice A1 ys.length c1) ys) (g1 : rightB xs = true) (g2 : rightB ys = true) :
    Calls Tryz.prog 87 #[.slice A0 xs.length c0, .slice A1 ys.length c1] w (RetSl (digs (Nat.gcd (num xs) (num ys))) w) := by
  have H := Lib.hid (And.intro hx hy)
  obtain ⟨G, hG⟩ : ∃ G, G = Nat.gcd (num xs) (num ys) := ⟨_, rfl⟩
  rw [← hG]
  have WAY := Lib.hid (show OnWay G xs ys from ⟨g1, g2, hG.symm⟩)
  clear hx hy g1 g2 hG
  obtain ⟨n0, hn0⟩ : ∃ n, n = xs.length := ⟨_, rfl⟩
  obtain ⟨n1, hn1⟩ : ∃ n, n = ys.length := ⟨_, rfl⟩
  rw [← hn0] at H ⊢
  rw [← hn1] at H ⊢
  clear hn0 hn1
  go_enter Tryz.func87, Tryz.ntmps87
  go_wp2
  go_loopw [0, 1] (fun x y wr => ∃ us vs, Row wr x us ∧ Row wr y vs ∧ Hid (OnWay G us vs) ∧ Since w wr) (fun _ y wr => rdNum wr y)
  case atStart => exact ⟨xs, ys, H.out.1, H.out.2, WAY, Since.refl _⟩
  case round =>
    obtain ⟨us, vs, hu, hv, hway, hK⟩ := hrel
    have HR := Lib.hid (And.intro hu hv)
    have DU := Lib.hid (And.intro hu.dig hv.dig)
    obtain ⟨_, A, cA, rfl, _, -⟩ := hu
    obtain ⟨_, B, cB, rfl, _, -⟩ := hv
    have HA := Lib.hid (show us.length ≤ 256 ∧ vs.length ≤ 256 from ⟨(right_norm hway.out.1).1, (right_norm hway.out.2.1).1⟩)
    by_cases h0 : vs.length = 0
    · obtain ⟨e1, e2⟩ := hway.out.last DU.out.1 h0
      have hz : decide (0 < vs.length) = false := by rw [decide_eq_false_iff_not]; omega
      have HE := Lib.hid e1
      clear e1 e2 h0
      go_wp2_with (first
        | (go_at_call 67; (with_reducible refine (clone_any (.slice A us.length cA) us _ HR.out.1 (by have := HA.out; omega)).mono ?_); rintro e w4 ⟨A4, c4, rfl, h5, h4⟩))
      go_ret
      exact ⟨A4, c4, by rw [HE.out]; rfl, by rw [← HE.out]; exact h5, hK.trans h4⟩
    · have hz : decide (0 < vs.length) = true := by rw [decide_eq_true_iff]; omega
      have hn := hway.out.next DU.out.2 h0
      have HN := Lib.hid hn
      have H0 := Lib.hid h0
      by_cases hs : us.length ≤ 2 ∧ vs.length ≤ 2
      · have U1 := Lib.hid (show uintD us = (num us, 0) by rw [show uintD us = _ from if_pos hway.out.1, if_neg (by omega)])
        have U2 := Lib.hid (show uintD vs = (num vs, 0) by rw [show uintD vs = _ from if_pos hway.out.2.1, if_neg (by omega)])
        have L1 := Lib.hid (show num us < 18446744073709551616 from Nat.lt_of_lt_of_le (num_lt DU.out.1) (Nat.le_trans (Nat.pow_le_pow_right (n := 4294967296) (by omega) hs.1) (by omega)))
        have L2 := Lib.hid (show num vs < 18446744073709551616 from Nat.lt_of_lt_of_le (num_lt DU.out.2) (Nat.le_trans (Nat.pow_le_pow_right (n := 4294967296) (by omega) hs.2) (by omega)))
        have EG := Lib.hid hway.out.2.2
        have LG := Lib.hid (show G < 18446744073709551616 by
          have h1 := Nat.gcd_le_right (num us) (num_pos (right_norm hway.out.2.1).2 h0)
          rw [hway.out.2.2] at h1
          have := L2.out; omega)
        obtain ⟨x, hx⟩ : ∃ x, x = num us := ⟨_, rfl⟩
        obtain ⟨y, hy⟩ : ∃ y, y = num vs := ⟨_, rfl⟩
        rw [← hx] at U1 L1 EG
        rw [← hy] at U2 L2 EG
        clear hn h0 hs hx hy
        go_wp2_with (first
          | (go_at_call 69; (with_reducible refine (uint_at (.slice A us.length cA) us _ (HR.out.1.since (Since.refl _)) (by have := HA.out; omega) U1.out).mono ?_); rintro e w4 ⟨rfl, h4⟩; have hK := hK.trans h4)
          | (go_at_call 69; (with_reducible refine (uint_at (.slice B vs.length cB) vs _ (HR.out.2.since h4) (by have := HA.out; omega) U2.out).mono ?_); rintro e w5 ⟨rfl, h5⟩; have hK := hK.trans h5)
          | (go_at_call 108; (with_reducible refine (gcd_small x y _ L1.out L2.out).mono ?_); rw [EG.out]; rintro e w6 ⟨rfl, h6⟩; have hK := hK.trans h6)
          | (go_at_call 68; (with_reducible refine ((Nat02.of_any G _ LG.out).mono fun _ _ h => RetRow.sl h).mono ?_); rintro e w7 ⟨A7, c7, rfl, hr, h7⟩; have hK := hK.trans h7))
        go_ret
        exact ⟨A7, c7, rfl, hr, hK⟩
      · obtain ⟨x, y, e, f, U1, U2, hef⟩ : ∃ x y e f, Hid (uintD us = (x, e)) ∧ Hid (uintD vs = (y, f)) ∧ ((e = 4 ∧ f = 4) ∨ (e = 4 ∧ f = 0) ∨ (e = 0 ∧ f = 4)) := by
          have e1 : uintD us = _ := if_pos hway.out.1
          have e2 : uintD vs = _ := if_pos hway.out.2.1
          by_cases k1 : 2 < us.length <;> by_cases k2 : 2 < vs.length
          · rw [if_pos k1] at e1; rw [if_pos k2] at e2; exact ⟨_, _, _, _, e1, e2, .inl ⟨rfl, rfl⟩⟩
          · rw [if_pos k1] at e1; rw [if_neg k2] at e2; exact ⟨_, _, _, _, e1, e2, .inr (.inl ⟨rfl, rfl⟩)⟩
          · rw [if_neg k1] at e1; rw [if_pos k2] at e2; exact ⟨_, _, _, _, e1, e2, .inr (.inr ⟨rfl, rfl⟩)⟩
          · exact absurd ⟨by omega, by omega⟩ hs
        have DM := Lib.hid (show divQ us vs = digs (num us / num vs) ∧ divR us vs = digs (num us % num vs) ∧ divE us vs = 0 from ⟨if_pos ⟨⟨hway.out.1, hway.out.2.1⟩, h0⟩, if_pos ⟨⟨hway.out.1, hway.out.2.1⟩, h0⟩, if_pos ⟨⟨hway.out.1, hway.out.2.1⟩, h0⟩⟩)
        obtain ⟨dq, hdq⟩ : ∃ d, d = digs (num us / num vs) := ⟨_, rfl⟩
        obtain ⟨dr, hdr⟩ : ∃ d, d = digs (num us % num vs) := ⟨_, rfl⟩
        rw [← hdq, ← hdr] at DM
        rw [← hdr] at HN
        clear hn h0 hs hdq hdr
        rcases hef with ⟨rfl, rfl⟩ | ⟨rfl, rfl⟩ | ⟨rfl, rfl⟩
        all_goals
          go_wp2_with (first
            | (go_at_call 69; (with_reducible refine (uint_at (.slice A us.length cA) us _ (HR.out.1.since (Since.refl _)) (by have := HA.out; omega) U1.out).mono ?_); rintro e w4 ⟨rfl, h4⟩; have hK := hK.trans h4)
            | (go_at_call 69; (with_reducible refine (uint_at (.slice B vs.length cB) vs _ (HR.out.2.since h4) (by have := HA.out; omega) U2.out).mono ?_); rintro e w5 ⟨rfl, h5⟩; have hK := hK.trans h5; have h45 := h4.trans h5)
            | (go_at_call 95; (with_reducible refine (dm_at (.slice A us.length cA) (.slice B vs.length cB) us vs _ (HR.out.1.since h45) (HR.out.2.since h45) (by have := HA.out; omega) (by have := HA.out; omega) DM.out.1 DM.out.2.1 DM.out.2.2).mono ?_); rintro e w6 ⟨A2, c2, A3, c3, rfl, hq, hr, h6⟩; have hK := hK.trans h6; have h46 := h45.trans h6))
          go_roundw
          case rel => exact ⟨vs, _, HR.out.2.since h46, hr, Lib.hid HN.out.1, hK⟩
          case measure => rw [rdNum_row hr, rdNum_row HR.out.2]; exact HN.out.2

end Go.Proofs.YtbbemgeinlehmaaGreatDoor.Sg03

namespace Go.Proofs.YtbbemgeinlehmaaGreatDoor.Sg03
open Go.RowKit
set_option linter.unusedVariables false
open Go.Proofs.YtbbemgeinlehmaaGreatDoor.Dig
open Go.Proofs.YtbbemgeinlehmaaGreatDoor.Ref03

set_option maxRecDepth 100000 in
set_option maxHeartbeats 2000000 in
theorem gcd_any (A0 A1 : Option Addr) (c0 c1 : Nat) (na nb : Bool) (xs ys : List Nat) (w : World) (hx : Row w (.slice A0 xs.length c0) xs) (hy : Row w (.slice A1 ys.length c1) ys) (lx : xs.length ≤ 1000) (ly : ys.length ≤ 1000) :
    Calls Tryz.prog 64 #[sv na (.slice A0 xs.length c0), sv nb (.slice A1 ys.length c1)] w (RetZ (gcdZ na xs nb ys) w) := by
  obtain ⟨Z, hZ⟩ : ∃ Z, Z = gcdZ na xs nb ys := ⟨_, rfl⟩
  rw [← hZ]
  have EZ := Lib.hid hZ
  clear hZ
  have DX := Lib.hid hx.dig
  have DY := Lib.hid hy.dig
  have GC := Lib.hid (fun (W : World) (gx : Row W (.slice A0 xs.length c0) xs) (gy : Row W (.slice A1 ys.length c1) ys) g1 g2 => gcd_row A0 A1 c0 c1 xs ys W gx gy g1 g2)
  have H := Lib.hid (And.intro hx hy)
  have LL := Lib.hid (And.intro lx ly)
  clear hx hy lx ly
  obtain ⟨n0, hn0⟩ : ∃ n, n = xs.length := ⟨_, rfl⟩
  rw [← hn0] at H GC ⊢
  obtain ⟨n1, hn1⟩ : ∃ n, n = ys.length := ⟨_, rfl⟩
  rw [← hn1] at H GC ⊢
  clear hn0 hn1
  obtain ⟨W0, hW0⟩ : ∃ W0, W0 = ((w.alloc (.cells #[.bool na, .slice A0 n0 c0] 29)).alloc (.cells #[.bool nb, .slice A1 n1 c1] 29)).alloc (.cells #[.bool false, .slice none 0 0] 29) := ⟨_, rfl⟩
  have HW := Lib.hid hW0
  have hS0 : Since w W0 := by rw [hW0]; exact (((Since.refl w).alloc _).alloc _).alloc _
  have hold : Hid (∀ W : World, Since W0 W → (W.cell? ⟨w.heap.size, 0, none⟩ = some (.bool na) ∧ W.cell? ⟨w.heap.size, 1, none⟩ = some (.slice A0 n0 c0) ∧ W.cell? ⟨w.heap.size + 1, 0, none⟩ = some (.bool nb) ∧ W.cell? ⟨w.heap.size + 1, 1, none⟩ = some (.slice A1 n1 c1)) ∧ Since w W) := fun W h => ⟨hold2 (hW0 ▸ h), hS0.trans h⟩
  have hk : Hid (∀ W : World, Since W0 W → W.cell? ⟨w.heap.size + 1 + 1, 0, none⟩ = some (.bool false) ∧ W.cell? ⟨w.heap.size + 1 + 1, 1, none⟩ = some (.slice none 0 0) ∧ W.frozen? ⟨w.heap.size + 1 + 1, 0, none⟩ = false ∧ W.frozen? ⟨w.heap.size + 1 + 1, 1, none⟩ = false) := fun W h => keep3 (hW0 ▸ h)
  have hb : Hid (∀ W : World, Since W0 W → Since (((w.alloc (.cells #[.bool na, .slice A0 n0 c0] 29)).alloc (.cells #[.bool nb, .slice A1 n1 c1] 29)).alloc (.cells #[.bool false, .slice none 0 0] 29)) W) := fun W h => hW0 ▸ h
  have setS : ∀ {W : World} {u0 u1 : Value}, Since W0 W → Since w ((W.setCell ⟨w.heap.size + 1 + 1, 0, none⟩ u0).setCell ⟨w.heap.size + 1 + 1, 1, none⟩ u1) := fun h => ((hS0.trans h).set (by show w.heap.size ≤ w.heap.size + 1 + 1; omega) _).set (by show w.heap.size ≤ w.heap.size + 1 + 1; omega) _
  clear hW0
  have hK := Since.refl W0
  by_cases r1 : srightB na xs = true
  · by_cases r2 : srightB nb ys = true
    · have R1 := Lib.hid r1
      have R2 := Lib.hid r2
      have G1 := Lib.hid (sright_right r1)
      have G2 := Lib.hid (sright_right r2)
      have E := Lib.hid (show Z = ((false, digs (Nat.gcd (num xs) (num ys))), 0) by rw [EZ.out, gcdZ, if_pos ⟨r1, r2⟩])
      have HL := Lib.hid (show (digs (Nat.gcd (num xs) (num ys))).length ≤ 1000000 by
        by_cases h0 : num xs = 0
        · rw [h0, Nat.gcd_zero_left]; exact Nat.le_trans (digs_len_num DY.out) (by have := (right_norm G2.out).1; omega)
        · exact Nat.le_trans (digs_len_mono (Nat.gcd_le_left _ (by omega))) (Nat.le_trans (digs_len_num DX.out) (by have := (right_norm G1.out).1; omega)))
      obtain ⟨ds, hd⟩ : ∃ ds, ds = digs (Nat.gcd (num xs) (num ys)) := ⟨_, rfl⟩
      rw [← hd] at E HL GC
      clear r1 r2 hd
      go_enter Tryz.func64, Tryz.ntmps64
      go_wp2_with fail
      rw [← HW.out]
      go_wp2_with (first
        | (go_at_call 65; (with_reducible refine (right_any (.slice A0 n0 c0) na xs _ (H.out.1.since (hS0.trans hK)) (by have := LL.out; omega)).mono ?_); rw [R1.out]; rintro e w1 ⟨rfl, h⟩; have hK := hK.trans h; obtain ⟨⟨k0, k1, k2, k3⟩, _⟩ := hold.out _ hK; obtain ⟨q0, q1, q2, q3⟩ := hk.out _ hK)
        | (go_at_call 65; (with_reducible refine (right_any (.slice A1 n1 c1) nb ys _ (H.out.2.since (hS0.trans hK)) (by have := LL.out; omega)).mono ?_); rw [R2.out]; rintro e w2 ⟨rfl, h⟩; have hK := hK.trans h; obtain ⟨⟨k0, k1, k2, k3⟩, _⟩ := hold.out _ hK; obtain ⟨q0, q1, q2, q3⟩ := hk.out _ hK)
        | (go_at_call 87; (with_reducible refine (GC.out _ (H.out.1.since (hS0.trans hK)) (H.out.2.since (hS0.trans hK)) G1.out G2.out).mono ?_); rintro e w3 ⟨A2, c2, rfl, hr, h⟩; have hK := hK.trans h; obtain ⟨⟨k0, k1, k2, k3⟩, _⟩ := hold.out _ hK; obtain ⟨q0, q1, q2, q3⟩ := hk.out _ hK)
        | (go_at_call 66; (with_reducible refine (number_any (.slice A2 ds.length c2) false ds _ hr HL.out).mono ?_); rintro e w4 ⟨rfl, h⟩; have hr := hr.since h; have hK := hK.trans h; obtain ⟨⟨k0, k1, k2, k3⟩, _⟩ := hold.out _ hK; obtain ⟨q0, q1, q2, q3⟩ := hk.out _ hK))
      refine bodyPost_ret (v := .tuple #[sv false (.slice A2 ds.length c2), .int .i64 0]) ?_ rfl ?_
      · simp [results, Tryz.results64, go_sem, q0, q1, signB]
      · show RetZ Z w _ _
        rw [E.out]
        exact ⟨_, _, rfl, row_set3 hr (hb.out _ hK) _ _, setS hK⟩
    · have R1 := Lib.hid r1
      have R2 := Lib.hid (show srightB nb ys = false by simpa using r2)
      have E := Lib.hid (show Z = ((false, []), 2) by rw [EZ.out, gcdZ, if_neg (fun h => r2 h.2)])
      clear r1 r2
      go_enter Tryz.func64, Tryz.ntmps64
      go_wp2_with fail
      rw [← HW.out]
      go_wp2_with (first
        | (go_at_call 65; (with_reducible refine (right_any (.slice A0 n0 c0) na xs _ (H.out.1.since (hS0.trans hK)) (by have := LL.out; omega)).mono ?_); rw [R1.out]; rintro e w1 ⟨rfl, h⟩; have hK := hK.trans h; obtain ⟨⟨k0, k1, k2, k3⟩, _⟩ := hold.out _ hK; obtain ⟨q0, q1, q2, q3⟩ := hk.out _ hK)
        | (go_at_call 65; (with_reducible refine (right_any (.slice A1 n1 c1) nb ys _ (H.out.2.since (hS0.trans hK)) (by have := LL.out; omega)).mono ?_); rw [R2.out]; rintro e w2 ⟨rfl, h⟩; have hK := hK.trans h; obtain ⟨⟨k0, k1, k2, k3⟩, _⟩ := hold.out _ hK; obtain ⟨q0, q1, q2, q3⟩ := hk.out _ hK))
      refine bodyPost_ret (v := .tuple #[sv false (.slice none 0 0), .int .i64 2]) ?_ rfl ?_
      · simp [results, Tryz.results64, go_sem, q0, q1]
      · show RetZ Z w _ _
        rw [E.out]
        exact ⟨_, _, rfl, Row.nil _, setS hK⟩
  · have R1 := Lib.hid (show srightB na xs = false by simpa using r1)
    have E := Lib.hid (show Z = ((false, []), 2) by rw [EZ.out, gcdZ, if_neg (fun h => r1 h.1)])
    clear r1
    go_enter Tryz.func64, Tryz.ntmps64
    go_wp2_with fail
    rw [← HW.out]
    go_wp2_with (first
      | (go_at_call 65; (with_reducible refine (right_any (.slice A0 n0 c0) na xs _ (H.out.1.since (hS0.trans hK)) (by have := LL.out; omega)).mono ?_); rw [R1.out]; rintro e w1 ⟨rfl, h⟩; have hK := hK.trans h; obtain ⟨⟨k0, k1, k2, k3⟩, _⟩ := hold.out _ hK; obtain ⟨q0, q1, q2, q3⟩ := hk.out _ hK))
    refine bodyPost_ret (v := .tuple #[sv false (.slice none 0 0), .int .i64 2]) ?_ rfl ?_
    · simp [results, Tryz.results64, go_sem, q0, q1]
    · show RetZ Z w _ _
      rw [E.out]
      exact ⟨_, _, rfl, Row.nil _, setS hK⟩

end Go.Proofs.YtbbemgeinlehmaaGreatDoor.Sg03
