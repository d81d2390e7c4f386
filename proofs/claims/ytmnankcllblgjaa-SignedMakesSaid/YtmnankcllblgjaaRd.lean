/- What the document's own less and Cmp of layer 3 give back. What the document's own Neg and Text of layer 3 give back. What the document's own Small of layer 3 gives back. -/
import Derived.Test.YtmnankcllblgjaaRb
import Derived.Test.YtmnankcllblgjaaRa
namespace Go.Proofs.Ytmnankcllblgjaa.Ref03
open Go.RowKit
set_option linter.unusedVariables false
open Go.Proofs.Ytmnankcllblgjaa.Dig

theorem less_any (A0 A1 : Option Addr) (c0 c1 : Nat) (na nb : Bool) (xs ys : List Nat) (w : World) (hx : Row w (.slice A0 xs.length c0) xs) (hy : Row w (.slice A1 ys.length c1) ys) (lx : xs.length ≤ 1000) (ly : ys.length ≤ 1000) (r1 : srightB na xs = true) (r2 : srightB nb ys = true) :
    Calls Try.prog 40 #[sv na (.slice A0 xs.length c0), sv nb (.slice A1 ys.length c1)] w fun e w' => e = .returned (.bool (slessB na xs nb ys)) ∧ Since w w' := by
  have H := Lib.hid (And.intro hx hy)
  have LL := Lib.hid (And.intro lx ly)
  have el := lessB_norm hx.dig hy.dig (right_norm (sright_right r1)).2 (right_norm (sright_right r2)).2
  have em := lessB_norm hy.dig hx.dig (right_norm (sright_right r2)).2 (right_norm (sright_right r1)).2
  cases na <;> cases nb
  case false.false =>
    have e : lessB xs ys = slessB false xs false ys := by rw [el]; simp [slessB, sval]
    have E := Lib.hid e
    clear e el em hx hy lx ly r1 r2
    go_enter Try.func40, Try.ntmps40
    go_wp2_with (go_at_call 63; (with_reducible refine (Ref02.less_any (.slice A0 xs.length c0) (.slice A1 ys.length c1) xs ys _ (H.out.1.since (((Since.refl w).alloc _).alloc _)) (H.out.2.since (((Since.refl w).alloc _).alloc _)) (by have := LL.out; omega) (by have := LL.out; omega)).mono ?_); rw [E.out]; rintro e w1 ⟨rfl, h1⟩)
    go_ret
    exact ⟨rfl, (((Since.refl w).alloc _).alloc _).trans ‹_›⟩
  case true.true =>
    have e : lessB ys xs = slessB true xs true ys := by
      rw [em]; simp only [slessB, sval, if_true]; rw [decide_eq_decide]; omega
    have E := Lib.hid e
    clear e el em hx hy lx ly r1 r2
    go_enter Try.func40, Try.ntmps40
    go_wp2_with (go_at_call 63; (with_reducible refine (Ref02.less_any (.slice A1 ys.length c1) (.slice A0 xs.length c0) ys xs _ (H.out.2.since (((Since.refl w).alloc _).alloc _)) (H.out.1.since (((Since.refl w).alloc _).alloc _)) (by have := LL.out; omega) (by have := LL.out; omega)).mono ?_); rw [E.out]; rintro e w1 ⟨rfl, h1⟩)
    go_ret
    exact ⟨rfl, (((Since.refl w).alloc _).alloc _).trans ‹_›⟩
  case true.false =>
    have e : slessB true xs false ys = true := by
      have := sright_pos r1
      simp only [slessB, sval]; apply decide_eq_true; simp <;> omega
    rw [e]
    clear e el em hx hy lx ly r1 r2
    go_enter Try.func40, Try.ntmps40
    go_wp2
    go_ret
    exact ⟨rfl, ((Since.refl w).alloc _).alloc _⟩
  case false.true =>
    have e : slessB false xs true ys = false := by
      simp only [slessB, sval]; apply decide_eq_false; simp <;> omega
    rw [e]
    clear e el em hx hy lx ly r1 r2
    go_enter Try.func40, Try.ntmps40
    go_wp2
    go_ret
    exact ⟨rfl, ((Since.refl w).alloc _).alloc _⟩
set_option maxRecDepth 100000 in
set_option maxHeartbeats 2000000 in
theorem cmp_any (A0 A1 : Option Addr) (c0 c1 : Nat) (na nb : Bool) (xs ys : List Nat) (w : World) (hx : Row w (.slice A0 xs.length c0) xs) (hy : Row w (.slice A1 ys.length c1) ys) (lx : xs.length ≤ 1000) (ly : ys.length ≤ 1000) :
    Calls Try.prog 15 #[sv na (.slice A0 xs.length c0), sv nb (.slice A1 ys.length c1)] w fun e w' => e = .returned (.tuple #[.int .i64 (cmpZ na xs nb ys).1, .int .i64 (cmpZ na xs nb ys).2]) ∧ Since w w' := by
  have H := Lib.hid (And.intro hx hy)
  have LL := Lib.hid (And.intro lx ly)
  have HL := Lib.hid (fun W gx gy r1 r2 => less_any A0 A1 c0 c1 na nb xs ys W gx gy lx ly r1 r2)
  have HM := Lib.hid (fun W gx gy r1 r2 => less_any A1 A0 c1 c0 nb na ys xs W gx gy ly lx r1 r2)
  clear hx hy lx ly
  obtain ⟨n0, hn0⟩ : ∃ n, n = xs.length := ⟨_, rfl⟩
  obtain ⟨n1, hn1⟩ : ∃ n, n = ys.length := ⟨_, rfl⟩
  rw [← hn0] at H HL HM ⊢
  rw [← hn1] at H HL HM ⊢
  obtain ⟨W0, hW0⟩ : ∃ W0, W0 = (w.alloc (.cells #[.bool na, .slice A0 n0 c0] 24)).alloc (.cells #[.bool nb, .slice A1 n1 c1] 24) := ⟨_, rfl⟩
  have HW := Lib.hid hW0
  have hold : Hid (∀ W : World, Since W0 W → (W.cell? ⟨w.heap.size, 0, none⟩ = some (.bool na) ∧ W.cell? ⟨w.heap.size, 1, none⟩ = some (.slice A0 n0 c0) ∧ W.cell? ⟨w.heap.size + 1, 0, none⟩ = some (.bool nb) ∧ W.cell? ⟨w.heap.size + 1, 1, none⟩ = some (.slice A1 n1 c1))) := fun W h => hold2of (hW0 ▸ h)
  have hS0 : Since w W0 := by rw [hW0]; exact ((Since.refl w).alloc _).alloc _
  have hK := Since.refl W0
  have HR0 := Lib.hid (show ∀ W, Since W0 W → Row W (.slice A0 n0 c0) xs from fun W h => H.out.1.since (hS0.trans h))
  have HR1 := Lib.hid (show ∀ W, Since W0 W → Row W (.slice A1 n1 c1) ys from fun W h => H.out.2.since (hS0.trans h))
  have RA := Lib.hid (show ∀ W, Since W0 W → Calls Try.prog 17 #[sv na (.slice A0 n0 c0)] W fun e w' => e = .returned (.bool (srightB na xs)) ∧ Since W w' from fun W h => right_any (.slice A0 n0 c0) na xs W (HR0.out W h) (by have := LL.out; omega))
  have RB := Lib.hid (show ∀ W, Since W0 W → Calls Try.prog 17 #[sv nb (.slice A1 n1 c1)] W fun e w' => e = .returned (.bool (srightB nb ys)) ∧ Since W w' from fun W h => right_any (.slice A1 n1 c1) nb ys W (HR1.out W h) (by have := LL.out; omega))
  clear hW0 hn0 hn1
  by_cases r1 : srightB na xs = true
  · by_cases r2 : srightB nb ys = true
    · have R1 := Lib.hid r1
      have R2 := Lib.hid r2
      have ev0 : cmpZ na xs nb ys = (if sval na xs < sval nb ys then (-1, 0) else if sval nb ys < sval na xs then (1, 0) else (0, 0)) := by unfold cmpZ; rw [if_pos ⟨r1, r2⟩]
      clear r1 r2
      rcases Int.lt_trichotomy (sval na xs) (sval nb ys) with h | h | h
      · have EV := Lib.hid (show cmpZ na xs nb ys = (-1, 0) by rw [ev0, if_pos h])
        have E1 := Lib.hid (show slessB na xs nb ys = true by unfold slessB; exact decide_eq_true h)
        have E2 := Lib.hid (show slessB nb ys na xs = false by unfold slessB; exact decide_eq_false (by omega))
        clear ev0 h
        go_enter Try.func15, Try.ntmps15
        go_wp2_with fail
        rw [← HW.out]
        go_wp2_with (first
          | (go_at_call 17; (with_reducible refine (RA.out _ hK).mono ?_); rw [R1.out]; rintro e w1 ⟨rfl, h1⟩; have hK := hK.trans h1; obtain ⟨k0, k1, k2, k3⟩ := hold.out _ hK)
          | (go_at_call 17; (with_reducible refine (RB.out _ hK).mono ?_); rw [R2.out]; rintro e w2 ⟨rfl, h2⟩; have hK := hK.trans h2; obtain ⟨k0, k1, k2, k3⟩ := hold.out _ hK)
          | (go_at_call 40; (with_reducible refine (HL.out _ (HR0.out _ hK) (HR1.out _ hK) R1.out R2.out).mono ?_); rw [E1.out]; rintro e w3 ⟨rfl, h3⟩; have hK := hK.trans h3; obtain ⟨k0, k1, k2, k3⟩ := hold.out _ hK)
          | (go_at_call 40; (with_reducible refine (HM.out _ (HR1.out _ hK) (HR0.out _ hK) R2.out R1.out).mono ?_); rw [E2.out]; rintro e w4 ⟨rfl, h4⟩; have hK := hK.trans h4; obtain ⟨k0, k1, k2, k3⟩ := hold.out _ hK))
        go_ret2
        exact ⟨by rw [EV.out]; rfl, hS0.trans hK⟩
      · have EV := Lib.hid (show cmpZ na xs nb ys = (0, 0) by rw [ev0, if_neg (by omega), if_neg (by omega)])
        have E1 := Lib.hid (show slessB na xs nb ys = false by unfold slessB; exact decide_eq_false (by omega))
        have E2 := Lib.hid (show slessB nb ys na xs = false by unfold slessB; exact decide_eq_false (by omega))
        clear ev0 h
        go_enter Try.func15, Try.ntmps15
        go_wp2_with fail
        rw [← HW.out]
        go_wp2_with (first
          | (go_at_call 17; (with_reducible refine (RA.out _ hK).mono ?_); rw [R1.out]; rintro e w1 ⟨rfl, h1⟩; have hK := hK.trans h1; obtain ⟨k0, k1, k2, k3⟩ := hold.out _ hK)
          | (go_at_call 17; (with_reducible refine (RB.out _ hK).mono ?_); rw [R2.out]; rintro e w2 ⟨rfl, h2⟩; have hK := hK.trans h2; obtain ⟨k0, k1, k2, k3⟩ := hold.out _ hK)
          | (go_at_call 40; (with_reducible refine (HL.out _ (HR0.out _ hK) (HR1.out _ hK) R1.out R2.out).mono ?_); rw [E1.out]; rintro e w3 ⟨rfl, h3⟩; have hK := hK.trans h3; obtain ⟨k0, k1, k2, k3⟩ := hold.out _ hK)
          | (go_at_call 40; (with_reducible refine (HM.out _ (HR1.out _ hK) (HR0.out _ hK) R2.out R1.out).mono ?_); rw [E2.out]; rintro e w4 ⟨rfl, h4⟩; have hK := hK.trans h4; obtain ⟨k0, k1, k2, k3⟩ := hold.out _ hK))
        go_ret2
        exact ⟨by rw [EV.out]; rfl, hS0.trans hK⟩
      · have EV := Lib.hid (show cmpZ na xs nb ys = (1, 0) by rw [ev0, if_neg (by omega), if_pos h])
        have E1 := Lib.hid (show slessB na xs nb ys = false by unfold slessB; exact decide_eq_false (by omega))
        have E2 := Lib.hid (show slessB nb ys na xs = true by unfold slessB; exact decide_eq_true h)
        clear ev0 h
        go_enter Try.func15, Try.ntmps15
        go_wp2_with fail
        rw [← HW.out]
        go_wp2_with (first
          | (go_at_call 17; (with_reducible refine (RA.out _ hK).mono ?_); rw [R1.out]; rintro e w1 ⟨rfl, h1⟩; have hK := hK.trans h1; obtain ⟨k0, k1, k2, k3⟩ := hold.out _ hK)
          | (go_at_call 17; (with_reducible refine (RB.out _ hK).mono ?_); rw [R2.out]; rintro e w2 ⟨rfl, h2⟩; have hK := hK.trans h2; obtain ⟨k0, k1, k2, k3⟩ := hold.out _ hK)
          | (go_at_call 40; (with_reducible refine (HL.out _ (HR0.out _ hK) (HR1.out _ hK) R1.out R2.out).mono ?_); rw [E1.out]; rintro e w3 ⟨rfl, h3⟩; have hK := hK.trans h3; obtain ⟨k0, k1, k2, k3⟩ := hold.out _ hK)
          | (go_at_call 40; (with_reducible refine (HM.out _ (HR1.out _ hK) (HR0.out _ hK) R2.out R1.out).mono ?_); rw [E2.out]; rintro e w4 ⟨rfl, h4⟩; have hK := hK.trans h4; obtain ⟨k0, k1, k2, k3⟩ := hold.out _ hK))
        go_ret2
        exact ⟨by rw [EV.out]; rfl, hS0.trans hK⟩
    · have R1 := Lib.hid r1
      have R2 := Lib.hid (show srightB nb ys = false by simpa using r2)
      have EV := Lib.hid (show cmpZ na xs nb ys = (0, 2) by unfold cmpZ; rw [if_neg (fun h => r2 h.2)])
      clear r1 r2
      go_enter Try.func15, Try.ntmps15
      go_wp2_with fail
      rw [← HW.out]
      go_wp2_with (first
        | (go_at_call 17; (with_reducible refine (RA.out _ hK).mono ?_); rw [R1.out]; rintro e w1 ⟨rfl, h1⟩; have hK := hK.trans h1; obtain ⟨k0, k1, k2, k3⟩ := hold.out _ hK)
        | (go_at_call 17; (with_reducible refine (RB.out _ hK).mono ?_); rw [R2.out]; rintro e w2 ⟨rfl, h2⟩; have hK := hK.trans h2; obtain ⟨k0, k1, k2, k3⟩ := hold.out _ hK))
      go_ret2
      exact ⟨by rw [EV.out]; rfl, hS0.trans hK⟩
  · have R1 := Lib.hid (show srightB na xs = false by simpa using r1)
    have EV := Lib.hid (show cmpZ na xs nb ys = (0, 2) by unfold cmpZ; rw [if_neg (fun h => r1 h.1)])
    clear r1
    go_enter Try.func15, Try.ntmps15
    go_wp2_with fail
    rw [← HW.out]
    go_wp2_with (first
      | (go_at_call 17; (with_reducible refine (RA.out _ hK).mono ?_); rw [R1.out]; rintro e w1 ⟨rfl, h1⟩; have hK := hK.trans h1; obtain ⟨k0, k1, k2, k3⟩ := hold.out _ hK))
    go_ret2
    exact ⟨by rw [EV.out]; rfl, hS0.trans hK⟩
end Go.Proofs.Ytmnankcllblgjaa.Ref03

namespace Go.Proofs.Ytmnankcllblgjaa.Ref03
open Go.RowKit
set_option linter.unusedVariables false
open Go.Proofs.Ytmnankcllblgjaa.Dig

set_option maxRecDepth 100000 in
set_option maxHeartbeats 1000000 in
theorem neg_any (A0 : Option Addr) (c0 : Nat) (na : Bool) (xs : List Nat) (w : World) (hx : Row w (.slice A0 xs.length c0) xs) (lx : xs.length ≤ 1000) :
    Calls Try.prog 27 #[sv na (.slice A0 xs.length c0)] w (RetZ (negZ na xs) w) := by
  have H := Lib.hid hx
  have LL := Lib.hid lx
  have dx := hx.dig
  have HD := Lib.hid dx
  obtain ⟨W0, hW0⟩ : ∃ W0, W0 = (w.alloc (.cells #[.bool na, .slice A0 xs.length c0] 24)).alloc (.cells #[.bool false, .slice none 0 0] 24) := ⟨_, rfl⟩
  have HW := Lib.hid hW0
  have hold : Hid (∀ W : World, Since W0 W → (W.cell? ⟨w.heap.size, 0, none⟩ = some (.bool na) ∧ W.cell? ⟨w.heap.size, 1, none⟩ = some (.slice A0 xs.length c0))) := fun W h => hold1of (hW0 ▸ h)
  have hk3 : Hid (∀ W : World, Since W0 W → W.cell? ⟨w.heap.size + 1, 0, none⟩ = some (.bool false) ∧ W.cell? ⟨w.heap.size + 1, 1, none⟩ = some (.slice none 0 0) ∧ W.frozen? ⟨w.heap.size + 1, 0, none⟩ = false ∧ W.frozen? ⟨w.heap.size + 1, 1, none⟩ = false) := fun W h => keep2of (hW0 ▸ h)
  have hb3 : Hid (∀ W : World, Since W0 W → Since ((w.alloc (.cells #[.bool na, .slice A0 xs.length c0] 24)).alloc (.cells #[.bool false, .slice none 0 0] 24)) W) := fun W h => hW0 ▸ h
  have hS0 : Since w W0 := by rw [hW0]; exact ((Since.refl w).alloc _).alloc _
  have hK := Since.refl W0
  clear hW0 hx lx dx
  by_cases r1 : srightB na xs = true
  · have R1 := Lib.hid r1
    have em : mag (-(sval na xs)) = xs := by
      unfold mag; rw [Int.natAbs_neg, sval_abs]; exact digs_num HD.out (right_norm (sright_right r1)).2
    have es : signB (!na) xs = ngB (-(sval na xs)) := by
      have h := sign_mag (-(sval na xs)) (!na) (fun hz => by
        unfold ngB sval at *
        cases na <;> simp at hz ⊢ <;> omega)
      rw [em] at h; exact h
    have EV := Lib.hid (show negZ na xs = ((signB (!na) xs, xs), 0) by rw [negZ, if_pos r1, em, es])
    clear r1 em es
    obtain ⟨sg, hsg⟩ : ∃ sg, sg = signB (!na) xs := ⟨_, rfl⟩
    have HSG := Lib.hid hsg
    clear hsg
    go_enter Try.func27, Try.ntmps27
    go_wp2_with fail
    rw [← HW.out]
    go_wp2_with (first
      | (go_at_call 17; (with_reducible refine (right_any (.slice A0 xs.length c0) na xs _ (H.out.since (hS0.trans hK)) (by have := LL.out; omega)).mono ?_); rw [R1.out]; rintro e w1 ⟨rfl, h1⟩; have hK := hK.trans h1; obtain ⟨k0, k1⟩ := hold.out _ hK; obtain ⟨q0, q1, q2, q3⟩ := hk3.out _ hK)
      | (go_at_call 46; (with_reducible refine (made_any (.slice A0 xs.length c0) (!na) xs _ (H.out.since (hS0.trans hK)) (by have := LL.out; omega)).mono ?_); rw [← HSG.out]; rintro e w2 ⟨rfl, h2⟩; have hK := hK.trans h2; obtain ⟨k0, k1⟩ := hold.out _ hK; obtain ⟨q0, q1, q2, q3⟩ := hk3.out _ hK))
    refine bodyPost_ret (v := .tuple #[sv sg (.slice A0 xs.length c0), .int .i64 0]) ?_ rfl ?_
    · simp [results, Try.results27, go_sem, q0, q1]
    · rw [EV.out, HSG.out]
      exact ⟨_, _, rfl, row_set2of (H.out.since (hS0.trans hK)) (hb3.out _ hK) _ _, since_set2of (hb3.out _ hK) _ _⟩
  · have R1 := Lib.hid (show srightB na xs = false by simpa using r1)
    have EV := Lib.hid (show negZ na xs = ((false, []), 2) by rw [negZ, if_neg r1])
    clear r1
    go_enter Try.func27, Try.ntmps27
    go_wp2_with fail
    rw [← HW.out]
    go_wp2_with (first
      | (go_at_call 17; (with_reducible refine (right_any (.slice A0 xs.length c0) na xs _ (H.out.since (hS0.trans hK)) (by have := LL.out; omega)).mono ?_); rw [R1.out]; rintro e w1 ⟨rfl, h1⟩; have hK := hK.trans h1; obtain ⟨k0, k1⟩ := hold.out _ hK; obtain ⟨q0, q1, q2, q3⟩ := hk3.out _ hK))
    refine bodyPost_ret (v := .tuple #[sv false (.slice none 0 0), .int .i64 2]) ?_ rfl ?_
    · simp [results, Try.results27, go_sem, q0, q1]
    · rw [EV.out]
      exact ⟨_, _, rfl, Row.nil _, since_set2of (hb3.out _ hK) _ _⟩
end Go.Proofs.Ytmnankcllblgjaa.Ref03

namespace Go.Proofs.Ytmnankcllblgjaa.Ref03
open Go.RowKit
set_option linter.unusedVariables false
open Go.Proofs.Ytmnankcllblgjaa.Dig

set_option maxRecDepth 100000 in
set_option maxHeartbeats 1000000 in
theorem small_any (A0 : Option Addr) (c0 : Nat) (na : Bool) (xs : List Nat) (w : World) (hx : Row w (.slice A0 xs.length c0) xs) (lx : xs.length ≤ 1000) :
    Calls Try.prog 13 #[sv na (.slice A0 xs.length c0)] w fun e w' => e = .returned (.tuple #[.int .i64 (smallZ na xs).1, .int .i64 (smallZ na xs).2]) ∧ Since w w' := by
  have H := Lib.hid hx
  have LL := Lib.hid lx
  have HD := Lib.hid hx.dig
  obtain ⟨W0, hW0⟩ : ∃ W0, W0 = w.alloc (.cells #[.bool na, .slice A0 xs.length c0] 24) := ⟨_, rfl⟩
  have HW := Lib.hid hW0
  have hold : Hid (∀ W : World, Since W0 W → (W.cell? ⟨w.heap.size, 0, none⟩ = some (.bool na) ∧ W.cell? ⟨w.heap.size, 1, none⟩ = some (.slice A0 xs.length c0))) := fun W h => hold1 (hW0 ▸ h)
  have hS0 : Since w W0 := by rw [hW0]; exact (Since.refl w).alloc _
  have hK := Since.refl W0
  clear hW0 hx lx
  by_cases r1 : srightB na xs = true
  · have R1 := Lib.hid r1
    have hr := sright_right r1
    by_cases hl : 2 < xs.length
    · have eu : uintD xs = (0, 4) := by unfold uintD; rw [if_pos hr, if_pos hl]
      have hbig := num_long HD.out (right_norm hr).2 hl
      have ev : smallZ na xs = (0, 4) := by
        rw [smallZ, if_pos r1, if_neg]
        unfold fitsI sval
        cases na <;> simp <;> omega
      have EU := Lib.hid eu
      have EV := Lib.hid ev
      clear r1 hr hl eu ev hbig
      go_enter Try.func13, Try.ntmps13
      go_wp2_with fail
      rw [← HW.out]
      go_wp2_with (first
        | (go_at_call 17; (with_reducible refine (right_any (.slice A0 xs.length c0) na xs _ (H.out.since (hS0.trans hK)) (by have := LL.out; omega)).mono ?_); rw [R1.out]; rintro e w1 ⟨rfl, h1⟩; have hK := hK.trans h1; obtain ⟨k0, k1⟩ := hold.out _ hK)
        | (go_at_call 38; (with_reducible refine (Ref02.uint_any (.slice A0 xs.length c0) xs _ (H.out.since (hS0.trans hK)) (by have := LL.out; omega)).mono ?_); rw [EU.out]; rintro e w2 ⟨rfl, h2⟩; have hK := hK.trans h2; obtain ⟨k0, k1⟩ := hold.out _ hK))
      go_ret2
      exact ⟨by rw [EV.out]; rfl, hS0.trans hK⟩
    · have eu : uintD xs = (num xs, 0) := by unfold uintD; rw [if_pos hr, if_neg hl]
      have hlt : num xs < 18446744073709551616 := by
        have h := (Ref02.num_short HD.out (by omega) 0).1
        simpa using h
      have EU := Lib.hid eu
      obtain ⟨n, hn⟩ : ∃ n, n = num xs := ⟨_, rfl⟩
      have hpos : na = true → 0 < n := fun h => by subst h; rw [hn]; exact sright_pos r1
      have EV := Lib.hid (show smallZ na xs = if fitsI (if na = true then -(n : Int) else (n : Int)) then ((if na = true then -(n : Int) else (n : Int)), 0) else (0, 4) by rw [smallZ, if_pos r1, sval, hn])
      rw [← hn] at hlt
      have HE := Lib.hid (show uintD xs = (n, 0) by rw [EU.out, hn])
      clear r1 hr hl eu EU hn
      cases na
      · by_cases hf : n ≤ 9223372036854775807
        · have EX := Lib.hid (show smallZ false xs = ((n : Int), 0) by rw [EV.out, if_pos (by unfold fitsI; simp <;> omega)]; simp)
          have hz : decide ((9223372036854775808 : Int) ≤ (n : Int)) = false := by rw [decide_eq_false_iff_not]; omega
          clear EV hpos
          go_enter Try.func13, Try.ntmps13
          go_wp2_with fail
          rw [← HW.out]
          go_wp2_with (first
            | (go_at_call 17; (with_reducible refine (right_any (.slice A0 xs.length c0) false xs _ (H.out.since (hS0.trans hK)) (by have := LL.out; omega)).mono ?_); rw [R1.out]; rintro e w1 ⟨rfl, h1⟩; have hK := hK.trans h1; obtain ⟨k0, k1⟩ := hold.out _ hK)
            | (go_at_call 38; (with_reducible refine (Ref02.uint_any (.slice A0 xs.length c0) xs _ (H.out.since (hS0.trans hK)) (by have := LL.out; omega)).mono ?_); rw [HE.out]; rintro e w2 ⟨rfl, h2⟩; have hK := hK.trans h2; obtain ⟨k0, k1⟩ := hold.out _ hK))
          go_ret2
          exact ⟨by rw [EX.out]; go_num, hS0.trans hK⟩
        · have EX := Lib.hid (show smallZ false xs = (0, 4) by rw [EV.out, if_neg (by unfold fitsI; simp <;> omega)])
          have hz : decide ((9223372036854775808 : Int) ≤ (n : Int)) = true := by rw [decide_eq_true_iff]; omega
          clear EV hpos
          go_enter Try.func13, Try.ntmps13
          go_wp2_with fail
          rw [← HW.out]
          go_wp2_with (first
            | (go_at_call 17; (with_reducible refine (right_any (.slice A0 xs.length c0) false xs _ (H.out.since (hS0.trans hK)) (by have := LL.out; omega)).mono ?_); rw [R1.out]; rintro e w1 ⟨rfl, h1⟩; have hK := hK.trans h1; obtain ⟨k0, k1⟩ := hold.out _ hK)
            | (go_at_call 38; (with_reducible refine (Ref02.uint_any (.slice A0 xs.length c0) xs _ (H.out.since (hS0.trans hK)) (by have := LL.out; omega)).mono ?_); rw [HE.out]; rintro e w2 ⟨rfl, h2⟩; have hK := hK.trans h2; obtain ⟨k0, k1⟩ := hold.out _ hK))
          go_ret2
          exact ⟨by rw [EX.out]; rfl, hS0.trans hK⟩
      · have hpos := hpos rfl
        by_cases hf : n ≤ 9223372036854775808
        · have EX := Lib.hid (show smallZ true xs = (-(n : Int), 0) by rw [EV.out, if_pos (by unfold fitsI; simp <;> omega)]; simp)
          clear EV
          go_enter Try.func13, Try.ntmps13
          go_wp2_with fail
          rw [← HW.out]
          go_wp2_with (first
            | (go_at_call 17; (with_reducible refine (right_any (.slice A0 xs.length c0) true xs _ (H.out.since (hS0.trans hK)) (by have := LL.out; omega)).mono ?_); rw [R1.out]; rintro e w1 ⟨rfl, h1⟩; have hK := hK.trans h1; obtain ⟨k0, k1⟩ := hold.out _ hK)
            | (go_at_call 38; (with_reducible refine (Ref02.uint_any (.slice A0 xs.length c0) xs _ (H.out.since (hS0.trans hK)) (by have := LL.out; omega)).mono ?_); rw [HE.out]; rintro e w2 ⟨rfl, h2⟩; have hK := hK.trans h2; obtain ⟨k0, k1⟩ := hold.out _ hK))
          go_ret2
          exact ⟨by rw [EX.out]; go_num, hS0.trans hK⟩
        · have EX := Lib.hid (show smallZ true xs = (0, 4) by rw [EV.out, if_neg (by unfold fitsI; simp <;> omega)])
          clear EV
          go_enter Try.func13, Try.ntmps13
          go_wp2_with fail
          rw [← HW.out]
          go_wp2_with (first
            | (go_at_call 17; (with_reducible refine (right_any (.slice A0 xs.length c0) true xs _ (H.out.since (hS0.trans hK)) (by have := LL.out; omega)).mono ?_); rw [R1.out]; rintro e w1 ⟨rfl, h1⟩; have hK := hK.trans h1; obtain ⟨k0, k1⟩ := hold.out _ hK)
            | (go_at_call 38; (with_reducible refine (Ref02.uint_any (.slice A0 xs.length c0) xs _ (H.out.since (hS0.trans hK)) (by have := LL.out; omega)).mono ?_); rw [HE.out]; rintro e w2 ⟨rfl, h2⟩; have hK := hK.trans h2; obtain ⟨k0, k1⟩ := hold.out _ hK))
          go_ret2
          exact ⟨by rw [EX.out]; rfl, hS0.trans hK⟩
  · have R1 := Lib.hid (show srightB na xs = false by simpa using r1)
    have EV := Lib.hid (show smallZ na xs = (0, 2) by rw [smallZ, if_neg r1])
    clear r1
    go_enter Try.func13, Try.ntmps13
    go_wp2_with fail
    rw [← HW.out]
    go_wp2_with (first
      | (go_at_call 17; (with_reducible refine (right_any (.slice A0 xs.length c0) na xs _ (H.out.since (hS0.trans hK)) (by have := LL.out; omega)).mono ?_); rw [R1.out]; rintro e w1 ⟨rfl, h1⟩; have hK := hK.trans h1; obtain ⟨k0, k1⟩ := hold.out _ hK))
    go_ret2
    exact ⟨by rw [EV.out]; rfl, hS0.trans hK⟩
end Go.Proofs.Ytmnankcllblgjaa.Ref03
