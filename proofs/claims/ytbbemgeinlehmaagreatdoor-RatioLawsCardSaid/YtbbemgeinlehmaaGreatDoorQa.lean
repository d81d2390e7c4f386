/- What the small calls of the document's own answers for layer 4 give back: is a number 1, is a fraction right. What the document's own Make gives back once its numbers may be: the fraction in lowest terms. -/
import Derived.Test.YtbbemgeinlehmaaGreatDoorFw
import Derived.Test.YtbbemgeinlehmaaGreatDoorRb
import Derived.Test.YtbbemgeinlehmaaGreatDoorRe
import Derived.Lib.SliceRun
import Derived.Test.YtbbemgeinlehmaaGreatDoorRd
import Derived.Deep.DeepCutAuto
namespace Go.Proofs.YtbbemgeinlehmaaGreatDoor.Ref04
open Go.RowKit
set_option linter.unusedVariables false
open Go.Proofs.YtbbemgeinlehmaaGreatDoor.Dig Go.Proofs.YtbbemgeinlehmaaGreatDoor.R4
open Go.Proofs.YtbbemgeinlehmaaGreatDoor.Ref03 (sv srightB gcdZ)

theorem one_any (A : Option Addr) (c : Nat) (na : Bool) (xs : List Nat) (w : World) (h : Row w (.slice A xs.length c) xs) (hl : xs.length ≤ 10000) :
    Calls Tryz.prog 59 #[sv na (.slice A xs.length c)] w fun e w' => e = .returned (.bool (oneB (na, xs))) ∧ Since w w' := by
  cases na
  · by_cases h1 : xs.length = 1
    · obtain ⟨x, rfl⟩ : ∃ x, xs = [x] := by
        match xs, h1 with
        | [x], _ => exact ⟨x, rfl⟩
      obtain ⟨hd, A', c', e, h3, _⟩ := h
      obtain ⟨b, o, rfl, h4⟩ := h3 (by simp)
      injection e with e1 e2 e3
      subst e1 e3
      have hc := h4 0 (by simp)
      have hx : x < 4294967296 := hd x (by simp)
      clear h3 h4 hd h1 e2 hl
      simp only [List.getD, List.getElem?_cons_zero, Option.getD_some, Nat.add_zero] at hc
      show Calls Tryz.prog 59 #[sv false (.slice (some ⟨b, o, none⟩) 1 c)] w _
      have hc2 : ∀ ob : Obj, (w.alloc ob).cell? ⟨b, o, none⟩ = some (.int .u32 (x : Int)) := fun ob => Lib.cell?_alloc_some ob hc
      clear hc
      by_cases hv : x = 1
      · subst hv
        go_enter Tryz.func59, Tryz.ntmps59
        go_wp2
        go_ret
        exact ⟨rfl, (Since.refl _).alloc _⟩
      · have e : oneB (false, [x]) = false := by simp [oneB, hv]
        rw [e]
        have hz : ((x : Int) == 1) = false := by rw [beq_eq_false_iff_ne]; omega
        go_enter Tryz.func59, Tryz.ntmps59
        go_wp2
        go_ret
        exact ⟨rfl, (Since.refl _).alloc _⟩
    · have e : oneB (false, xs) = false := by
        simp only [oneB, Bool.not_false, Bool.true_and, decide_eq_false_iff_not]
        intro hx; rw [hx] at h1; exact h1 rfl
      rw [e]
      have hz : ((xs.length : Int) == 1) = false := by rw [beq_eq_false_iff_ne]; omega
      clear h e h1
      go_enter Tryz.func59, Tryz.ntmps59
      go_wp2
      go_ret
      exact ⟨rfl, (Since.refl _).alloc _⟩
  · go_enter Tryz.func59, Tryz.ntmps59
    go_wp2
    go_ret
    exact ⟨rfl, (Since.refl _).alloc _⟩
/-- RIGHT --/
theorem one_digs (g : Nat) : oneB (false, digs g) = decide (g = 1) := by
  unfold oneB
  rw [Bool.not_false, Bool.true_and, decide_eq_decide]
  constructor
  · intro h
    have h : digs g = [1] := h
    have := congrArg num h; rw [num_digs] at this; rw [this]; rfl
  · rintro rfl; rfl
theorem rr_eq (na nb : Bool) (xs ys : List Nat) : rrB ((na, xs), (nb, ys)) = (srightB na xs && (srightB nb ys && (decide (xs.length ≤ 64) && (decide (ys.length ≤ 64) && (!nb && decide (ys.length ≠ 0))))) && decide (Nat.gcd (num xs) (num ys) = 1)) := rfl
set_option maxRecDepth 100000 in
set_option maxHeartbeats 4000000 in
theorem right_any (A0 A1 : Option Addr) (c0 c1 : Nat) (na nb : Bool) (xs ys : List Nat) (w : World) (hx : Row w (.slice A0 xs.length c0) xs) (hy : Row w (.slice A1 ys.length c1) ys) (lx : xs.length ≤ 1000) (ly : ys.length ≤ 1000) :
    Calls Tryz.prog 31 #[.agg #[.bool na, .slice A0 xs.length c0, .bool nb, .slice A1 ys.length c1]] w fun e w' => e = .returned (.bool (rrB ((na, xs), (nb, ys)))) ∧ Since w w' := by
  have H := Lib.hid (And.intro hx hy)
  have LL := Lib.hid (And.intro lx ly)
  have e0 := rr_eq na nb xs ys
  rw [show rrB ((na, xs), (nb, ys)) = _ from e0]
  clear e0
  clear hx hy lx ly
  obtain ⟨W0, hW0⟩ : ∃ W0, W0 = w.alloc (.cells #[.bool na, .slice A0 xs.length c0, .bool nb, .slice A1 ys.length c1] 26) := ⟨_, rfl⟩
  have HW := Lib.hid hW0
  have hS0 : Since w W0 := by rw [hW0]; exact (Since.refl w).alloc _
  have hbx : Hid (∀ W : World, Since W0 W → Bx W (w.heap.size) #[.bool na, .slice A0 xs.length c0, .bool nb, .slice A1 ys.length c1] 26) := fun W h => Bx.new (hW0 ▸ h) (by simp)
  clear hW0
  have hK := Since.refl W0
  by_cases r1 : srightB na xs = true
  rotate_left
  · have R1 := Lib.hid (show srightB na xs = false by simpa using r1)
    go_enter Tryz.func31, Tryz.ntmps31
    go_wp2_with fail
    rw [← HW.out]
    obtain B0 := hbx.out _ hK; obtain ⟨k0a, k0b, k0c, k0d⟩ := B0.four
    go_wp2_with (first
      | (go_at_call 61; (with_reducible refine (Ref03.right_any (.slice A0 xs.length c0) na xs _ (H.out.1.since (hS0.trans hK)) (by have := LL.out; omega)).mono ?_); rw [R1.out]; rintro e w1 ⟨rfl, h⟩; have hK := hK.trans h; obtain B0 := hbx.out _ hK; obtain ⟨k0a, k0b, k0c, k0d⟩ := B0.four)
      | (go_at_call 61; (with_reducible refine (Ref03.right_any (.slice A1 ys.length c1) nb ys _ (H.out.2.since (hS0.trans hK)) (by have := LL.out; omega)).mono ?_); rw [R2.out]; rintro e w2 ⟨rfl, h⟩; have hK := hK.trans h; obtain B0 := hbx.out _ hK; obtain ⟨k0a, k0b, k0c, k0d⟩ := B0.four))
    go_ret
    exact ⟨by simp [R1.out], hS0.trans hK⟩
  have R1 := Lib.hid r1
  by_cases r2 : srightB nb ys = true
  rotate_left
  · have R2 := Lib.hid (show srightB nb ys = false by simpa using r2)
    go_enter Tryz.func31, Tryz.ntmps31
    go_wp2_with fail
    rw [← HW.out]
    obtain B0 := hbx.out _ hK; obtain ⟨k0a, k0b, k0c, k0d⟩ := B0.four
    go_wp2_with (first
      | (go_at_call 61; (with_reducible refine (Ref03.right_any (.slice A0 xs.length c0) na xs _ (H.out.1.since (hS0.trans hK)) (by have := LL.out; omega)).mono ?_); rw [R1.out]; rintro e w1 ⟨rfl, h⟩; have hK := hK.trans h; obtain B0 := hbx.out _ hK; obtain ⟨k0a, k0b, k0c, k0d⟩ := B0.four)
      | (go_at_call 61; (with_reducible refine (Ref03.right_any (.slice A1 ys.length c1) nb ys _ (H.out.2.since (hS0.trans hK)) (by have := LL.out; omega)).mono ?_); rw [R2.out]; rintro e w2 ⟨rfl, h⟩; have hK := hK.trans h; obtain B0 := hbx.out _ hK; obtain ⟨k0a, k0b, k0c, k0d⟩ := B0.four))
    go_ret
    exact ⟨by simp [R2.out], hS0.trans hK⟩
  have R2 := Lib.hid r2
  rw [r1, r2]
  clear r1 r2
  by_cases l1 : xs.length ≤ 64
  rotate_left
  · have hz : decide ((64 : Int) < (xs.length : Int)) = true := by rw [decide_eq_true_iff]; omega
    go_enter Tryz.func31, Tryz.ntmps31
    go_wp2_with fail
    rw [← HW.out]
    obtain B0 := hbx.out _ hK; obtain ⟨k0a, k0b, k0c, k0d⟩ := B0.four
    go_wp2_with (first
      | (go_at_call 61; (with_reducible refine (Ref03.right_any (.slice A0 xs.length c0) na xs _ (H.out.1.since (hS0.trans hK)) (by have := LL.out; omega)).mono ?_); rw [R1.out]; rintro e w1 ⟨rfl, h⟩; have hK := hK.trans h; obtain B0 := hbx.out _ hK; obtain ⟨k0a, k0b, k0c, k0d⟩ := B0.four)
      | (go_at_call 61; (with_reducible refine (Ref03.right_any (.slice A1 ys.length c1) nb ys _ (H.out.2.since (hS0.trans hK)) (by have := LL.out; omega)).mono ?_); rw [R2.out]; rintro e w2 ⟨rfl, h⟩; have hK := hK.trans h; obtain B0 := hbx.out _ hK; obtain ⟨k0a, k0b, k0c, k0d⟩ := B0.four))
    go_ret
    exact ⟨by simp [l1], hS0.trans hK⟩
  have hz1 : decide ((64 : Int) < (xs.length : Int)) = false := by rw [decide_eq_false_iff_not]; omega
  by_cases l2 : ys.length ≤ 64
  rotate_left
  · have hz : decide ((64 : Int) < (ys.length : Int)) = true := by rw [decide_eq_true_iff]; omega
    go_enter Tryz.func31, Tryz.ntmps31
    go_wp2_with fail
    rw [← HW.out]
    obtain B0 := hbx.out _ hK; obtain ⟨k0a, k0b, k0c, k0d⟩ := B0.four
    go_wp2_with (first
      | (go_at_call 61; (with_reducible refine (Ref03.right_any (.slice A0 xs.length c0) na xs _ (H.out.1.since (hS0.trans hK)) (by have := LL.out; omega)).mono ?_); rw [R1.out]; rintro e w1 ⟨rfl, h⟩; have hK := hK.trans h; obtain B0 := hbx.out _ hK; obtain ⟨k0a, k0b, k0c, k0d⟩ := B0.four)
      | (go_at_call 61; (with_reducible refine (Ref03.right_any (.slice A1 ys.length c1) nb ys _ (H.out.2.since (hS0.trans hK)) (by have := LL.out; omega)).mono ?_); rw [R2.out]; rintro e w2 ⟨rfl, h⟩; have hK := hK.trans h; obtain B0 := hbx.out _ hK; obtain ⟨k0a, k0b, k0c, k0d⟩ := B0.four))
    go_ret
    exact ⟨by simp [l2], hS0.trans hK⟩
  have hz2 : decide ((64 : Int) < (ys.length : Int)) = false := by rw [decide_eq_false_iff_not]; omega
  cases nb
  rotate_left
  · go_enter Tryz.func31, Tryz.ntmps31
    go_wp2_with fail
    rw [← HW.out]
    obtain B0 := hbx.out _ hK; obtain ⟨k0a, k0b, k0c, k0d⟩ := B0.four
    go_wp2_with (first
      | (go_at_call 61; (with_reducible refine (Ref03.right_any (.slice A0 xs.length c0) na xs _ (H.out.1.since (hS0.trans hK)) (by have := LL.out; omega)).mono ?_); rw [R1.out]; rintro e w1 ⟨rfl, h⟩; have hK := hK.trans h; obtain B0 := hbx.out _ hK; obtain ⟨k0a, k0b, k0c, k0d⟩ := B0.four)
      | (go_at_call 61; (with_reducible refine (Ref03.right_any (.slice A1 ys.length c1) true ys _ (H.out.2.since (hS0.trans hK)) (by have := LL.out; omega)).mono ?_); rw [R2.out]; rintro e w2 ⟨rfl, h⟩; have hK := hK.trans h; obtain B0 := hbx.out _ hK; obtain ⟨k0a, k0b, k0c, k0d⟩ := B0.four))
    go_ret
    exact ⟨by simp, hS0.trans hK⟩
  by_cases h0 : ys.length = 0
  · have hz : ((ys.length : Int) == 0) = true := by rw [beq_iff_eq]; omega
    have H0 := Lib.hid h0
    clear h0
    go_enter Tryz.func31, Tryz.ntmps31
    go_wp2_with fail
    rw [← HW.out]
    obtain B0 := hbx.out _ hK; obtain ⟨k0a, k0b, k0c, k0d⟩ := B0.four
    go_wp2_with (first
      | (go_at_call 61; (with_reducible refine (Ref03.right_any (.slice A0 xs.length c0) na xs _ (H.out.1.since (hS0.trans hK)) (by have := LL.out; omega)).mono ?_); rw [R1.out]; rintro e w1 ⟨rfl, h⟩; have hK := hK.trans h; obtain B0 := hbx.out _ hK; obtain ⟨k0a, k0b, k0c, k0d⟩ := B0.four)
      | (go_at_call 61; (with_reducible refine (Ref03.right_any (.slice A1 ys.length c1) false ys _ (H.out.2.since (hS0.trans hK)) (by have := LL.out; omega)).mono ?_); rw [R2.out]; rintro e w2 ⟨rfl, h⟩; have hK := hK.trans h; obtain B0 := hbx.out _ hK; obtain ⟨k0a, k0b, k0c, k0d⟩ := B0.four))
    go_ret
    exact ⟨by simp [H0.out], hS0.trans hK⟩
  have hz3 : ((ys.length : Int) == 0) = false := by rw [beq_eq_false_iff_ne]; omega
  have GC := Lib.hid (show gcdZ na xs false ys = ((false, digs (Nat.gcd (num xs) (num ys))), 0) from if_pos ⟨R1.out, R2.out⟩)
  have GL := Lib.hid (gcd_len (Ref03.sright_right R1.out) H.out.1.dig (Ref03.sright_right R2.out) H.out.2.dig)
  obtain ⟨gs, hgs⟩ : ∃ gs, gs = digs (Nat.gcd (num xs) (num ys)) := ⟨_, rfl⟩
  rw [← hgs] at GC GL
  have e1 : (true && (true && (decide (xs.length ≤ 64) && (decide (ys.length ≤ 64) && (!false && decide (ys.length ≠ 0))))) && decide (Nat.gcd (num xs) (num ys) = 1)) = oneB (false, gs) := by
    rw [decide_eq_true l1, decide_eq_true l2, decide_eq_true h0, hgs, one_digs]; rfl
  rw [e1]
  clear e1 hgs l1 l2 h0
  go_enter Tryz.func31, Tryz.ntmps31
  go_wp2_with fail
  rw [← HW.out]
  obtain B0 := hbx.out _ hK; obtain ⟨k0a, k0b, k0c, k0d⟩ := B0.four
  go_wp2_with (first
    | (go_at_call 61; (with_reducible refine (Ref03.right_any (.slice A0 xs.length c0) na xs _ (H.out.1.since (hS0.trans hK)) (by have := LL.out; omega)).mono ?_); rw [R1.out]; rintro e w1 ⟨rfl, h⟩; have hK := hK.trans h; obtain B0 := hbx.out _ hK; obtain ⟨k0a, k0b, k0c, k0d⟩ := B0.four)
    | (go_at_call 61; (with_reducible refine (Ref03.right_any (.slice A1 ys.length c1) false ys _ (H.out.2.since (hS0.trans hK)) (by have := LL.out; omega)).mono ?_); rw [R2.out]; rintro e w2 ⟨rfl, h⟩; have hK := hK.trans h; obtain B0 := hbx.out _ hK; obtain ⟨k0a, k0b, k0c, k0d⟩ := B0.four)
    | (go_at_call 62; (with_reducible refine (Ref03.gcd_any A0 A1 c0 c1 na false xs ys _ ((H.out.1.since (hS0.trans hK))) ((H.out.2.since (hS0.trans hK))) (by have := LL.out; omega) (by have := LL.out; omega)).mono ?_); rw [GC.out]; rintro e w3 ⟨A2, c2, rfl, hg, h⟩; have hK := hK.trans h; obtain B0 := hbx.out _ hK; obtain ⟨k0a, k0b, k0c, k0d⟩ := B0.four)
    | (go_at_call 59; (with_reducible refine (one_any A2 c2 false gs _ (hg.since (since_alloc _ _)) (by have := GL.out; omega)).mono ?_); rintro e w4 ⟨rfl, h⟩; have hK := (hK.trans (since_alloc _ _)).trans h))
  go_ret
  exact ⟨rfl, hS0.trans hK⟩
end Go.Proofs.YtbbemgeinlehmaaGreatDoor.Ref04

namespace Go.Proofs.YtbbemgeinlehmaaGreatDoor.Ref04
open Go.RowKit
set_option linter.unusedVariables false
open Go.Proofs.YtbbemgeinlehmaaGreatDoor.Dig Go.Proofs.YtbbemgeinlehmaaGreatDoor.R4 Go.Proofs.YtbbemgeinlehmaaGreatDoor.Fr
open Go.Proofs.YtbbemgeinlehmaaGreatDoor.Ref03 (sv srightB gcdZ divZ negZ mulZ addZ cmpZ textZ sval ngB mag RetZ RetQR RetS)

theorem div_at (A0 A1 : Option Addr) (c0 c1 : Nat) (na nb : Bool) (xs ys : List Nat) (w : World) (hx : Row w (.slice A0 xs.length c0) xs) (hy : Row w (.slice A1 ys.length c1) ys) (lx : xs.length ≤ 1000) (ly : ys.length ≤ 1000) {n m : Int} (h : divZ na xs nb ys = ((pz n, pz m), 0)) {s : Bool} (hs : ngB n = s) :
    Calls Tryz.prog 54 #[sv na (.slice A0 xs.length c0), sv nb (.slice A1 ys.length c1)] w fun e w' => ∃ A c B d, e = .returned (.tuple #[sv s (.slice A (mag n).length c), sv (ngB m) (.slice B (mag m).length d), .int .i64 0]) ∧ Row w' (.slice A (mag n).length c) (mag n) ∧ Row w' (.slice B (mag m).length d) (mag m) ∧ Since w w' := by
  have k := Ref03.divmod_any A0 A1 c0 c1 na nb xs ys w hx hy lx ly
  rw [h] at k
  subst hs
  exact k
theorem neg_at (A0 : Option Addr) (c0 : Nat) (na : Bool) (xs : List Nat) (w : World) (hx : Row w (.slice A0 xs.length c0) xs) (lx : xs.length ≤ 1000) {n : Int} (h : negZ na xs = (pz n, 0)) :
    Calls Tryz.prog 49 #[sv na (.slice A0 xs.length c0)] w fun e w' => ∃ A c, e = .returned (.tuple #[sv (ngB n) (.slice A (mag n).length c), .int .i64 0]) ∧ Row w' (.slice A (mag n).length c) (mag n) ∧ Since w w' := by
  have k := Ref03.neg_any A0 c0 na xs w hx lx
  rwa [h] at k
set_option maxRecDepth 100000 in
set_option maxHeartbeats 4000000 in
theorem made_nums_any (A0 A1 : Option Addr) (c0 c1 : Nat) (na nb : Bool) (xs ys : List Nat) (w : World) (hx : Row w (.slice A0 xs.length c0) xs) (hy : Row w (.slice A1 ys.length c1) ys) (lx : xs.length ≤ 256) (ly : ys.length ≤ 256) {gs : List Nat} {n d : Int} (M : Made na xs nb ys gs n d) :
    Calls Tryz.prog 45 #[sv na (.slice A0 xs.length c0), sv nb (.slice A1 ys.length c1)] w (RetF (fitF (Fr.red (sval na xs) (sval nb ys))) w) := by
  have H := Lib.hid (And.intro hx hy)
  have M := Lib.hid M
  have LL := Lib.hid (show xs.length ≤ 256 ∧ ys.length ≤ 256 from ⟨lx, ly⟩)
  have RR := Lib.hid M.out.red
  have SG := Lib.hid M.out.sign
  clear hx hy lx ly
  obtain ⟨p, hp⟩ : ∃ p, p = Fr.red (sval na xs) (sval nb ys) := ⟨_, rfl⟩
  rw [← hp] at RR ⊢
  clear hp
  obtain ⟨W0, hW0⟩ : ∃ W0, W0 = ((w.alloc (.cells #[.bool na, .slice A0 xs.length c0] 24)).alloc (.cells #[.bool nb, .slice A1 ys.length c1] 24)).alloc (.cells #[.bool false, .slice none 0 0, .bool false, .slice none 0 0] 26) := ⟨_, rfl⟩
  have HW := Lib.hid hW0
  have hS0 : Since w W0 := by rw [hW0]; exact (((Since.refl w).alloc _).alloc _).alloc _
  have hbx : Hid (∀ W : World, Since W0 W → Bx W (w.heap.size) #[.bool na, .slice A0 xs.length c0] 24 ∧ Bx W (w.heap.size + 1) #[.bool nb, .slice A1 ys.length c1] 24 ∧ Bx W (w.heap.size + 1 + 1) #[.bool false, .slice none 0 0, .bool false, .slice none 0 0] 26) := fun W h => ⟨Bx.new ((since_alloc _ _).trans ((since_alloc _ _).trans (hW0 ▸ h))) (by simp), Bx.new ((since_alloc _ _).trans (hW0 ▸ h)) (by simp), Bx.new (hW0 ▸ h) (by simp)⟩
  clear hW0
  have hK := Since.refl W0
  go_enter Tryz.func45, Tryz.ntmps45
  go_wp2_with fail
  rw [← HW.out]
  obtain ⟨B0, B1, B2⟩ := hbx.out _ hK; obtain ⟨k0a, k0b⟩ := B0.two; obtain ⟨k1a, k1b⟩ := B1.two; obtain ⟨r0a, r0b, r0c, r0d⟩ := B2.four; obtain ⟨f0a, f0b, f0c, f0d⟩ := B2.four'
  go_upto_region 2 with (first
    | (go_at_call 62; (with_reducible refine (Ref03.gcd_any A0 A1 c0 c1 na nb xs ys _ (H.out.1.since (hS0.trans hK)) (H.out.2.since (hS0.trans hK)) (by have := LL.out; omega) (by have := LL.out; omega)).mono ?_); rw [M.out.gcd]; rintro e w1 ⟨Ag, cg, rfl, rg, h⟩; have hK := hK.trans h))
  have hS := Since.refl W0
  obtain ⟨W1, hW1⟩ : ∃ W1, W1 = w1.alloc (.cells #[.bool false, .slice Ag gs.length cg] 24) := ⟨_, rfl⟩
  rw [← hW1]
  have hx : Since w1 W1 := by rw [hW1]; exact since_alloc _ _
  have hg := hK.trans hx
  have qbW1 : w.heap.size + 1 + 1 < w1.heap.size := (hbx.out _ (hS.trans hK)).2.2.lt
  have Vg : Hid (∀ W', Since W1 W' → Bx W' (w1.heap.size) #[.bool false, .slice Ag gs.length cg] 24) := fun W' h => Bx.new (hW1 ▸ h) (by simp)
  have rg := rg.since hx
  have hS := hS.trans hg
  clear hW1 hx hg hK
  generalize w1.heap.size = bkW1 at *
  have hK := Since.refl W1
  obtain ⟨B0, B1, B2⟩ := hbx.out _ (hS.trans hK)
  obtain ⟨k0a, k0b⟩ := B0.two
  obtain ⟨k1a, k1b⟩ := B1.two
  obtain ⟨r0a, r0b, r0c, r0d⟩ := B2.four
  obtain ⟨f0a, f0b, f0c, f0d⟩ := B2.four'
  obtain ⟨vga, vgb⟩ := (Vg.out _ hK).two
  go_upto_region 3 with (first
    | (go_at_call 54; (with_reducible refine (div_at A0 Ag c0 cg na false xs gs _ (H.out.1.since (hS0.trans (hS.trans hK))) (rg.since hK) (by have := LL.out; omega) (by have := M.out.glen; omega) M.out.dn rfl).mono ?_); rintro e w2 ⟨An, cn, Am, cm, rfl, rn, rm, h⟩; have hK := hK.trans h))
  obtain ⟨W2, hW2⟩ : ∃ W2, W2 = (w2.alloc (.cells #[.bool (ngB n), .slice An (mag n).length cn] 24)).alloc (.cells #[.bool (ngB 0), .slice Am (mag 0).length cm] 24) := ⟨_, rfl⟩
  rw [← hW2]
  have hx : Since w2 W2 := by rw [hW2]; exact (since_alloc _ _).trans (since_alloc _ _)
  have hg := hK.trans hx
  have qbW2 : w.heap.size + 1 + 1 < w2.heap.size := (hbx.out _ (hS.trans hK)).2.2.lt
  have qgW2 : bkW1 < w2.heap.size := (Vg.out _ hK).lt
  have Vn : Hid (∀ W', Since W2 W' → Bx W' (w2.heap.size) #[.bool (ngB n), .slice An (mag n).length cn] 24) := fun W' h => Bx.new ((since_alloc _ _).trans (hW2 ▸ h)) (by simp)
  have rg := rg.since hg
  have rn := rn.since hx
  have Vg : Hid (∀ W', Since W2 W' → _) := fun W' h => Vg.out W' (hg.trans h)
  have hS := hS.trans hg
  clear hW2 hx hg hK
  generalize w2.heap.size = bkW2 at *
  have hK := Since.refl W2
  obtain ⟨B0, B1, B2⟩ := hbx.out _ (hS.trans hK)
  obtain ⟨k0a, k0b⟩ := B0.two
  obtain ⟨k1a, k1b⟩ := B1.two
  obtain ⟨r0a, r0b, r0c, r0d⟩ := B2.four
  obtain ⟨f0a, f0b, f0c, f0d⟩ := B2.four'
  obtain ⟨vga, vgb⟩ := (Vg.out _ hK).two
  obtain ⟨vna, vnb⟩ := (Vn.out _ hK).two
  go_upto_region 4 with (first
    | (go_at_call 54; (with_reducible refine (div_at A1 Ag c1 cg nb false ys gs _ (H.out.2.since (hS0.trans (hS.trans hK))) (rg.since hK) (by have := LL.out; omega) (by have := M.out.glen; omega) M.out.dd SG.out).mono ?_); rintro e w3 ⟨Ad, cd, Ap, cp, rfl, rd, rp, h⟩; have hK := hK.trans h))
  obtain ⟨W3, hW3⟩ : ∃ W3, W3 = (w3.alloc (.cells #[.bool nb, .slice Ad (mag d).length cd] 24)).alloc (.cells #[.bool (ngB 0), .slice Ap (mag 0).length cp] 24) := ⟨_, rfl⟩
  rw [← hW3]
  have hx : Since w3 W3 := by rw [hW3]; exact (since_alloc _ _).trans (since_alloc _ _)
  have hg := hK.trans hx
  have qbW3 : w.heap.size + 1 + 1 < w3.heap.size := (hbx.out _ (hS.trans hK)).2.2.lt
  have qgW3 : bkW1 < w3.heap.size := (Vg.out _ hK).lt
  have qnW3 : bkW2 < w3.heap.size := (Vn.out _ hK).lt
  have Vd : Hid (∀ W', Since W3 W' → Bx W' (w3.heap.size) #[.bool nb, .slice Ad (mag d).length cd] 24) := fun W' h => Bx.new ((since_alloc _ _).trans (hW3 ▸ h)) (by simp)
  have rg := rg.since hg
  have rn := rn.since hg
  have rd := rd.since hx
  have Vg : Hid (∀ W', Since W3 W' → _) := fun W' h => Vg.out W' (hg.trans h)
  have Vn : Hid (∀ W', Since W3 W' → _) := fun W' h => Vn.out W' (hg.trans h)
  have hS := hS.trans hg
  clear hW3 hx hg hK
  generalize w3.heap.size = bkW3 at *
  have hK := Since.refl W3
  obtain ⟨B0, B1, B2⟩ := hbx.out _ (hS.trans hK)
  obtain ⟨k0a, k0b⟩ := B0.two
  obtain ⟨k1a, k1b⟩ := B1.two
  obtain ⟨r0a, r0b, r0c, r0d⟩ := B2.four
  obtain ⟨f0a, f0b, f0c, f0d⟩ := B2.four'
  obtain ⟨vna, vnb⟩ := (Vn.out _ hK).two
  obtain ⟨vda, vdb⟩ := (Vd.out _ hK).two
  go_upto_if 35 with fail
  go_cut [] (fun W => ∃ (X : Option Addr) (x : Nat) (Y : Option Addr) (y : Nat), Bx W bkW2 #[.bool (ngB p.1), .slice X (mag p.1).length x] 24 ∧ Bx W bkW3 #[.bool (ngB p.2), .slice Y (mag p.2).length y] 24 ∧ Bx W (w.heap.size + 1 + 1) #[.bool false, .slice none 0 0, .bool false, .slice none 0 0] 26 ∧ Row W (.slice X (mag p.1).length x) (mag p.1) ∧ Row W (.slice Y (mag p.2).length y) (mag p.2) ∧ Since w W)
  case first =>
    cases nb
    · obtain rfl : p = (n, d) := RR.out.trans (if_neg (by simp))
      have hn : ngB d = false := SG.out
      go_wp2_with fail
      go_meet
      exact ⟨An, cn, Ad, cd, Vn.out _ hK, (by have := Vd.out _ hK; rw [← hn] at this; exact this), B2, rn, rd, hS0.trans (hS.trans hK)⟩
    · obtain rfl : p = (-n, -d) := RR.out.trans (if_pos rfl)
      have hn : ngB d = true := SG.out
      go_upto_region 6 with (first
        | (go_at_call 49; (with_reducible refine (neg_at An cn (ngB n) (mag n) _ (rn.since hK) (by have := M.out.len; omega) M.out.nn).mono ?_); rintro e w4 ⟨An', cn', rfl, rn', h⟩; have hK := hK.trans h; obtain ⟨vna, vnb⟩ := (Vn.out _ hK).two; obtain ⟨wna, wnb⟩ := (Vn.out _ hK).two'))
      have nq1 : bkW2 ≠ bkW3 := by omega
      have nq2 : w.heap.size + 1 + 1 ≠ bkW2 := by omega
      have nq3 : w.heap.size + 1 + 1 ≠ bkW3 := by omega
      obtain ⟨W4, hW4⟩ : ∃ W4, W4 = (w4.setCell ⟨bkW2, 0, none⟩ (.bool (ngB (-n)))).setCell ⟨bkW2, 1, none⟩ (.slice An' (mag (-n)).length cn') := ⟨_, rfl⟩
      rw [← hW4]
      have far := put2_far w4 bkW2 (.bool (ngB (-n))) (.slice An' (mag (-n)).length cn')
      have gn := (Vn.out _ hK).put2 (.bool (ngB (-n))) (.slice An' (mag (-n)).length cn')
      have gd := (Vd.out _ hK).stay (Ne.symm nq1) far
      have gr := (hbx.out _ (hS.trans hK)).2.2.stay nq2 far
      have gn' := (Vn.out _ hK).rowsI rn' far
      have gd' := (Vn.out _ hK).rowsI (rd.since hK) far
      have gs' : Since w (put2 w4 bkW2 (.bool (ngB (-n))) (.slice An' (mag (-n)).length cn')) := since_put2 (hS0.trans (hS.trans hK)) (by omega) _ _
      have hW4p : put2 w4 bkW2 (.bool (ngB (-n))) (.slice An' (mag (-n)).length cn') = W4 := hW4.symm
      rw [hW4p] at gn gd gr gn' gd' gs'
      clear hW4p
      clear hW4 far hK hS B0 B1 B2
      have hK := Since.refl W4
      obtain ⟨vda, vdb⟩ := gd.two
      go_wp2_with (first
        | (go_at_call 49; (with_reducible refine (neg_at Ad cd true (mag d) _ (gd'.since hK) (by have := M.out.len; omega) (hn ▸ M.out.nd)).mono ?_); rintro e w5 ⟨Ad', cd', rfl, rd', h⟩; have hK := hK.trans h; obtain ⟨vda, vdb⟩ := (gd.since hK).two; obtain ⟨wda, wdb⟩ := (gd.since hK).two'))
      go_meet
      have far := put2_far w5 bkW3 (.bool (ngB (-d))) (.slice Ad' (mag (-d)).length cd')
      refine ⟨An', cn', Ad', cd', (gn.since hK).stay nq1 far, (gd.since hK).put2 _ _, (gr.since hK).stay nq3 far, (gd.since hK).rowsI (gn'.since hK) far, (gd.since hK).rowsI rd' far, since_put2 (gs'.trans hK) (by omega) _ _⟩
  case rest =>
    obtain ⟨X, x, Y, y, gn, gd, gr, rn, rd, hs⟩ := hcut
    clear hK hS Vg Vn Vd B0 B1 B2
    obtain ⟨va, vb⟩ := gn.two
    obtain ⟨ua, ub⟩ := gd.two
    obtain ⟨r0a, r0b, r0c, r0d⟩ := gr.four
    obtain ⟨f0a, f0b, f0c, f0d⟩ := gr.four'
    have hh := put4_far wc (w.heap.size + 1 + 1)
    by_cases l1 : (mag p.1).length ≤ 64
    rotate_left
    · have hz : decide ((64 : Int) < ((mag p.1).length : Int)) = true := by rw [decide_eq_true_iff]; omega
      have FN := Lib.hid (show fitF p = (nilF, 3) from if_neg (by omega))
      clear l1
      go_wp2_with fail
      refine bodyPost_ret (v := .tuple #[.agg #[.bool false, .slice none ([] : List Nat).length 0, .bool false, .slice none ([] : List Nat).length 0], .int .i64 3]) ?_ rfl ?_
      · simp [results, Tryz.results45, go_sem, r0a, r0b, r0c, r0d]
      · rw [FN.out]; exact ⟨_, _, _, _, rfl, gr.rowsR (Row.nil _) (hh _ _ _ _), gr.rowsR (Row.nil _) (hh _ _ _ _), since_put4 hs (by omega) _ _ _ _⟩
    have hz1 : decide ((64 : Int) < ((mag p.1).length : Int)) = false := by rw [decide_eq_false_iff_not]; omega
    by_cases l2 : (mag p.2).length ≤ 64
    rotate_left
    · have hz : decide ((64 : Int) < ((mag p.2).length : Int)) = true := by rw [decide_eq_true_iff]; omega
      have FN := Lib.hid (show fitF p = (nilF, 3) from if_neg (by omega))
      clear l1 l2
      go_wp2_with fail
      refine bodyPost_ret (v := .tuple #[.agg #[.bool false, .slice none ([] : List Nat).length 0, .bool false, .slice none ([] : List Nat).length 0], .int .i64 3]) ?_ rfl ?_
      · simp [results, Tryz.results45, go_sem, r0a, r0b, r0c, r0d]
      · rw [FN.out]; exact ⟨_, _, _, _, rfl, gr.rowsR (Row.nil _) (hh _ _ _ _), gr.rowsR (Row.nil _) (hh _ _ _ _), since_put4 hs (by omega) _ _ _ _⟩
    have hz2 : decide ((64 : Int) < ((mag p.2).length : Int)) = false := by rw [decide_eq_false_iff_not]; omega
    have FN := Lib.hid (fitF_fit l1 l2)
    clear l1 l2
    go_wp2_with fail
    refine bodyPost_ret (v := .tuple #[.agg #[.bool (ngB p.1), .slice X (mag p.1).length x, .bool (ngB p.2), .slice Y (mag p.2).length y], .int .i64 0]) ?_ rfl ?_
    · simp [results, Tryz.results45, go_sem, r0a, r0b, r0c, r0d]
    · rw [FN.out]; exact ⟨_, _, _, _, rfl, gr.rowsR rn (hh _ _ _ _), gr.rowsR rd (hh _ _ _ _), since_put4 hs (by omega) _ _ _ _⟩
end Go.Proofs.YtbbemgeinlehmaaGreatDoor.Ref04
