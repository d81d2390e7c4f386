/- Signed's calls in the forms that package ratio wants; the quotients by the opposite of a common divisor. What the small calls of package ratio give back: has a number few enough digits, is it nought, is it 1. What lowest of package ratio gives back: the fraction of two numbers in lowest terms. What Right of package ratio gives back. What Of of package ratio gives back. What Make of package ratio gives back. What floor and Floor of package ratio give back. What the product of two numbers in package ratio gives back. -/
import Derived.Test.YtbbemgeinlehmaaGreatDoorFw
import Derived.Test.YtbbemgeinlehmaaGreatDoorSb
import Derived.Test.YtbbemgeinlehmaaGreatDoorSd
import Derived.Test.YtbbemgeinlehmaaGreatDoorSc
import Derived.Test.YtbbemgeinlehmaaGreatDoorQa
import Derived.Deep.DeepCutAuto
namespace Go.Proofs.YtbbemgeinlehmaaGreatDoor.Sr04
open Go.RowKit
set_option linter.unusedVariables false
open Go.Proofs.YtbbemgeinlehmaaGreatDoor.Dig Go.Proofs.YtbbemgeinlehmaaGreatDoor.R4 Go.Proofs.YtbbemgeinlehmaaGreatDoor.Fr
open Go.Proofs.YtbbemgeinlehmaaGreatDoor.Ref03 (sv srightB gcdZ divZ negZ mulZ addZ cmpZ textZ sval ngB mag RetZ RetQR RetS)
set_option linter.unusedSimpArgs false
open Go.Proofs.YtbbemgeinlehmaaGreatDoor.Ref04

theorem sval_ne {b : Bool} {ds : List Nat} (h : srightB b ds = true) (h0 : ds.length ≠ 0) : sval b ds ≠ 0 := by
  have := num_pos (right_norm (Ref03.sright_right h)).2 h0
  unfold sval; split <;> omega
/-- how many digits numbers of right fractions have, and their products and sums -/
structure Facts (a b : Fz) : Prop where
  w1 : srightB a.1.1 a.1.2 = true
  w2 : srightB a.2.1 a.2.2 = true
  w3 : srightB b.1.1 b.1.2 = true
  w4 : srightB b.2.1 b.2.2 = true
  z2 : a.2.2.length ≠ 0
  z4 : b.2.2.length ≠ 0
  l1 : (mag ((valF a).1 * (valF b).2)).length ≤ 130
  l2 : (mag ((valF b).1 * (valF a).2)).length ≤ 130
  l3 : (mag ((valF a).2 * (valF b).2)).length ≤ 130
  l4 : (mag ((valF a).1 * (valF b).1)).length ≤ 130
  l5 : (mag ((valF a).1 * (valF b).2 + (valF b).1 * (valF a).2)).length ≤ 131
theorem facts {a b : Fz} (d1 : IsDig a.1.2) (d2 : IsDig a.2.2) (d3 : IsDig b.1.2) (d4 : IsDig b.2.2) (ra : rrB a = true) (rb : rrB b = true) : Facts a b := by
  obtain ⟨p1, p2, p3, p4, p5, p6⟩ := well_parts (rr_parts ra).1
  obtain ⟨q1, q2, q3, q4, q5, q6⟩ := well_parts (rr_parts rb).1
  obtain ⟨_, _, m1, m2⟩ := rr_low d1 d2 ra
  obtain ⟨_, _, m3, m4⟩ := rr_low d3 d4 rb
  have u1 := und_of m1
  have u2 := und_of m2
  have u3 := und_of m3
  have u4 := und_of m4
  exact ⟨p1, p2, q1, q2, p6, q6, und_len ((u1.mul u4).up (by omega)), und_len ((u3.mul u2).up (by omega)), und_len ((u2.mul u4).up (by omega)), und_len ((u1.mul u3).up (by omega)), und_len (((u1.mul u4).add ((u3.mul u2).up (by omega))).up (by omega))⟩
theorem div_fl {na nb : Bool} {xs ys : List Nat} (h : rrB ((na, xs), (nb, ys)) = true) : divZ na xs nb ys = ((pz ((sval na xs).fdiv (sval nb ys)), pz ((sval na xs).fmod (sval nb ys))), 0) := by
  obtain ⟨h1, h2, _, _, _, h6⟩ := well_parts (rr_parts h).1
  exact if_pos ⟨⟨h1, h2⟩, h6⟩
theorem gcd_dig {na nb : Bool} {xs ys gs : List Nat} (h : gcdZ na xs nb ys = ((false, gs), 0)) : IsDig gs := by
  unfold gcdZ at h
  split at h
  · have e : digs (Nat.gcd (num xs) (num ys)) = gs := congrArg (fun z => z.1.2) h
    rw [← e]; exact isDig_digs _
  · have := congrArg Prod.snd h; simp at this
theorem neg_at (A0 : Option Addr) (c0 : Nat) (na : Bool) (xs : List Nat) (w : World) (hx : Row w (.slice A0 xs.length c0) xs) (lx : xs.length ≤ 1000) {n1 : Bool} {s1 : List Nat} (h : negZ na xs = ((n1, s1), 0)) :
    Calls Tryz.prog 36 #[sv na (.slice A0 xs.length c0)] w fun e w' => ∃ A c, e = .returned (.tuple #[sv n1 (.slice A s1.length c), .int .i64 0]) ∧ Row w' (.slice A s1.length c) s1 ∧ Since w w' := by
  have k := Sg03.neg_any A0 c0 na xs w hx lx
  rwa [h] at k
theorem div_at (A0 A1 : Option Addr) (c0 c1 : Nat) (na nb : Bool) (xs ys : List Nat) (w : World) (hx : Row w (.slice A0 xs.length c0) xs) (hy : Row w (.slice A1 ys.length c1) ys) (lx : xs.length ≤ 1000) (ly : ys.length ≤ 1000) {n m : Int} (h : divZ na xs nb ys = ((pz n, pz m), 0)) :
    Calls Tryz.prog 73 #[sv na (.slice A0 xs.length c0), sv nb (.slice A1 ys.length c1)] w fun e w' => ∃ A c B d, e = .returned (.tuple #[sv (ngB n) (.slice A (mag n).length c), sv (ngB m) (.slice B (mag m).length d), .int .i64 0]) ∧ Row w' (.slice A (mag n).length c) (mag n) ∧ Row w' (.slice B (mag m).length d) (mag m) ∧ Since w w' := by
  have k := Sg03.divmod_any A0 A1 c0 c1 na nb xs ys w hx hy lx ly
  rw [h] at k
  exact k
theorem fitZ_fit {z : Int} (h : (mag z).length ≤ 256) : Ref03.fitZ z = (pz z, 0) := if_pos h
theorem mul_at (A0 A1 : Option Addr) (c0 c1 : Nat) (na nb : Bool) (xs ys : List Nat) (w : World) (hx : Row w (.slice A0 xs.length c0) xs) (hy : Row w (.slice A1 ys.length c1) ys) (lx : xs.length ≤ 1000) (ly : ys.length ≤ 1000) {z : Int} (h : (srightB na xs = true ∧ srightB nb ys = true) ∧ sval na xs * sval nb ys = z) (lz : (mag z).length ≤ 256) :
    Calls Tryz.prog 72 #[sv na (.slice A0 xs.length c0), sv nb (.slice A1 ys.length c1)] w fun e w' => ∃ A c, e = .returned (.tuple #[sv (ngB z) (.slice A (mag z).length c), .int .i64 0]) ∧ Row w' (.slice A (mag z).length c) (mag z) ∧ Since w w' := by
  have k := Sg03.mul_any A0 A1 c0 c1 na nb xs ys w hx hy lx ly
  have e : mulZ na xs nb ys = (pz z, 0) := by unfold mulZ; rw [if_pos h.1, h.2]; exact fitZ_fit lz
  rw [e] at k
  exact k
theorem add_at (A0 A1 : Option Addr) (c0 c1 : Nat) (x y : Int) (w : World) (hx : Row w (.slice A0 (mag x).length c0) (mag x)) (hy : Row w (.slice A1 (mag y).length c1) (mag y)) (lx : (mag x).length ≤ 256) (ly : (mag y).length ≤ 256) {z : Int} (h : x + y = z) (lz : (mag z).length ≤ 256) :
    Calls Tryz.prog 41 #[sv (ngB x) (.slice A0 (mag x).length c0), sv (ngB y) (.slice A1 (mag y).length c1)] w fun e w' => ∃ A c, e = .returned (.tuple #[sv (ngB z) (.slice A (mag z).length c), .int .i64 0]) ∧ Row w' (.slice A (mag z).length c) (mag z) ∧ Since w w' := by
  have k := Sg03.add_any A0 A1 c0 c1 (ngB x) (ngB y) (mag x) (mag y) w hx hy (by omega) (by omega)
  have e : addZ (ngB x) (mag x) (ngB y) (mag y) = (pz z, 0) := by unfold addZ; rw [if_pos ⟨Bk.right_mag lx, Bk.right_mag ly⟩, Bk.sval_mag, Bk.sval_mag, h]; exact fitZ_fit lz
  rw [e] at k
  exact k
theorem scmp_at (A0 A1 : Option Addr) (c0 c1 : Nat) (x y : Int) (w : World) (hx : Row w (.slice A0 (mag x).length c0) (mag x)) (hy : Row w (.slice A1 (mag y).length c1) (mag y)) (lx : (mag x).length ≤ 256) (ly : (mag y).length ≤ 256) :
    Calls Tryz.prog 50 #[sv (ngB x) (.slice A0 (mag x).length c0), sv (ngB y) (.slice A1 (mag y).length c1)] w fun e w' => e = .returned (.tuple #[.int .i64 (cmpI x y), .int .i64 0]) ∧ Since w w' := by
  have k := Sg03.cmp_any A0 A1 c0 c1 (ngB x) (ngB y) (mag x) (mag y) w hx hy (by omega) (by omega)
  have e : cmpZ (ngB x) (mag x) (ngB y) (mag y) = (cmpI x y, 0) := by
    unfold cmpZ cmpI
    rw [if_pos ⟨Bk.right_mag lx, Bk.right_mag ly⟩, Bk.sval_mag, Bk.sval_mag]
    split
    · rfl
    · split <;> rfl
  rw [e] at k
  exact k
/-- the common divisor's opposite -/
theorem neg_gs {gs : List Nat} (dg : IsDig gs) (gr : srightB false gs = true) (g0 : gs.length ≠ 0) : negZ false gs = ((true, gs), 0) ∧ srightB true gs = true := by
  have h : srightB true gs = true := by
    have := Ref03.sright_right gr
    unfold srightB; rw [this, decide_eq_false g0]; rfl
  obtain ⟨h1, h2⟩ := Bk.of_right dg h
  have e : -(sval false gs) = sval true gs := by simp [sval]
  refine ⟨?_, h⟩
  unfold negZ
  rw [if_pos gr, e, h1, h2]
theorem pz_inj {a b : Int} (h : pz a = pz b) : a = b := by
  have h1 : ngB a = ngB b := congrArg Prod.fst h
  have h2 : mag a = mag b := congrArg Prod.snd h
  rw [← Bk.sval_mag a, ← Bk.sval_mag b, h1, h2]
theorem div_neg {na : Bool} {xs gs : List Nat} {n : Int} (h : divZ na xs false gs = ((pz n, pz 0), 0)) (gr : srightB true gs = true) : divZ na xs true gs = ((pz (-n), pz 0), 0) := by
  unfold divZ at h
  split at h
  · rename_i hc
    have e1 := congrArg (fun z => z.1.1) h
    have e2 := congrArg (fun z => z.1.2) h
    have e1 : (sval na xs).fdiv (sval false gs) = n := pz_inj e1
    have e2 : (sval na xs).fmod (sval false gs) = 0 := pz_inj e2
    have hg : sval true gs = -(sval false gs) := by simp [sval]
    have hm := Int.mul_fdiv_add_fmod (sval na xs) (sval false gs)
    rw [e1, e2, Int.add_zero] at hm
    have hp : sval false gs ≠ 0 := sval_ne hc.1.2 hc.2
    unfold divZ
    rw [if_pos ⟨⟨hc.1.1, gr⟩, hc.2⟩, hg, ← hm]
    generalize sval false gs = g at *
    have q : g * n = (-g) * (-n) := by rw [Int.neg_mul_neg]
    have a1 : (g * n).fdiv (-g) = -n := by rw [q]; exact Int.mul_fdiv_cancel_left _ (by omega)
    have a2 : (g * n).fmod (-g) = 0 := by rw [q]; exact Int.mul_fmod_right _ _
    rw [a1, a2]
  · have := congrArg Prod.snd h; simp at this
/-- both numbers divided by the common divisor, with the sign that makes the lower one positive -/
structure Low2 (na : Bool) (xs : List Nat) (nb : Bool) (ys : List Nat) (gs : List Nat) (p : Int × Int) : Prop where
  gcd : gcdZ na xs nb ys = ((false, gs), 0)
  glen : gs.length ≤ 256 ∧ gs.length ≠ 0
  neg : negZ false gs = ((true, gs), 0)
  dn : divZ na xs nb gs = ((pz p.1, pz 0), 0)
  dd : divZ nb ys nb gs = ((pz p.2, pz 0), 0)
  red : Fr.red (sval na xs) (sval nb ys) = p
theorem low_nums {na nb : Bool} {xs ys : List Nat} (dx : IsDig xs) (dy : IsDig ys) (r1 : srightB na xs = true) (r2 : srightB nb ys = true) (h0 : ys.length ≠ 0) : ∃ gs p, Low2 na xs nb ys gs p := by
  obtain ⟨gs, n, d, M⟩ := made_nums dx dy r1 r2 h0
  obtain ⟨g1, g2⟩ := neg_gs (gcd_dig M.gcd) M.gright M.glen.2
  have hr := M.red
  cases nb
  · rw [if_neg (by simp)] at hr
    exact ⟨gs, (n, d), M.gcd, M.glen, g1, M.dn, M.dd, hr⟩
  · rw [if_pos rfl] at hr
    exact ⟨gs, (-n, -d), M.gcd, M.glen, g1, div_neg M.dn g2, div_neg M.dd g2, hr⟩
theorem put23_far (W : World) (b : Nat) (u0 u1 : Value) (k : Nat) (h : k ≠ b) : ((W.setCell ⟨b, 2, none⟩ u0).setCell ⟨b, 3, none⟩ u1).heap[k]? = W.heap[k]? := by
  rw [Below.heap_setCell _ _ _ _ (by simpa using h), Below.heap_setCell _ _ _ _ (by simpa using h)]
theorem put01 {W : World} {b : Nat} {z0 z1 z2 z3 : Value} {t : TypeId} (h : Bx W b #[z0, z1, z2, z3] t) (u0 u1 : Value) : Bx (Go.Proofs.YtbbemgeinlehmaaGreatDoor.put2 W b u0 u1) b #[u0, u1, z2, z3] t := by
  have h1 := heap_setCell_same W b 0 _ t u0 h
  exact heap_setCell_same _ b 1 _ t u1 h1
theorem put23 {W : World} {b : Nat} {z0 z1 z2 z3 : Value} {t : TypeId} (h : Bx W b #[z0, z1, z2, z3] t) (u0 u1 : Value) : Bx ((W.setCell ⟨b, 2, none⟩ u0).setCell ⟨b, 3, none⟩ u1) b #[z0, z1, u0, u1] t := by
  have h1 := heap_setCell_same W b 2 _ t u0 h
  exact heap_setCell_same _ b 3 _ t u1 h1
theorem since_put23 {w W : World} {b : Nat} (h : Since w W) (hb : w.heap.size ≤ b) (u0 u1 : Value) : Since w ((W.setCell ⟨b, 2, none⟩ u0).setCell ⟨b, 3, none⟩ u1) := (h.set hb _).set hb _
end Go.Proofs.YtbbemgeinlehmaaGreatDoor.Sr04

namespace Go.Proofs.YtbbemgeinlehmaaGreatDoor.Sr04
open Go.RowKit
set_option linter.unusedVariables false
open Go.Proofs.YtbbemgeinlehmaaGreatDoor.Dig Go.Proofs.YtbbemgeinlehmaaGreatDoor.R4 Go.Proofs.YtbbemgeinlehmaaGreatDoor.Fr
open Go.Proofs.YtbbemgeinlehmaaGreatDoor.Ref03 (sv srightB gcdZ divZ negZ mulZ addZ cmpZ textZ sval ngB mag RetZ RetQR RetS)
set_option linter.unusedSimpArgs false
open Go.Proofs.YtbbemgeinlehmaaGreatDoor.Ref04

theorem fits_any (A : Option Addr) (n c : Nat) (na : Bool) (w : World) :
    Calls Tryz.prog 63 #[sv na (.slice A n c)] w fun e w' => e = .returned (.bool (decide (n ≤ 64))) ∧ Since w w' := by
  by_cases h : n ≤ 64
  · rw [decide_eq_true h]
    have hz : decide ((n : Int) ≤ 64) = true := by rw [decide_eq_true_iff]; omega
    have hz2 : decide ((64 : Int) < (n : Int)) = false := by rw [decide_eq_false_iff_not]; omega
    go_enter Tryz.func63, Tryz.ntmps63
    go_wp2
    go_ret
    exact ⟨by simp [h], (Since.refl _).alloc _⟩
  · rw [decide_eq_false h]
    have hz : decide ((n : Int) ≤ 64) = false := by rw [decide_eq_false_iff_not]; omega
    have hz2 : decide ((64 : Int) < (n : Int)) = true := by rw [decide_eq_true_iff]; omega
    go_enter Tryz.func63, Tryz.ntmps63
    go_wp2
    go_ret
    exact ⟨by simp [h], (Since.refl _).alloc _⟩
theorem zero_any (A : Option Addr) (n c : Nat) (na : Bool) (w : World) :
    Calls Tryz.prog 52 #[sv na (.slice A n c)] w fun e w' => e = .returned (.bool (decide (n = 0))) ∧ Since w w' := by
  by_cases h : n = 0
  · rw [decide_eq_true h]
    have hz : ((n : Int) == 0) = true := by rw [beq_iff_eq]; omega
    go_enter Tryz.func52, Tryz.ntmps52
    go_wp2
    go_ret
    exact ⟨by simp [h], (Since.refl _).alloc _⟩
  · rw [decide_eq_false h]
    have hz : ((n : Int) == 0) = false := by rw [beq_eq_false_iff_ne]; omega
    go_enter Tryz.func52, Tryz.ntmps52
    go_wp2
    go_ret
    exact ⟨by simp [h], (Since.refl _).alloc _⟩
theorem one_any (A : Option Addr) (c : Nat) (na : Bool) (xs : List Nat) (w : World) (h : Row w (.slice A xs.length c) xs) (hl : xs.length ≤ 10000) :
    Calls Tryz.prog 57 #[sv na (.slice A xs.length c)] w fun e w' => e = .returned (.bool (decide (xs = [1]))) ∧ Since w w' := by
  by_cases h1 : xs.length = 1
  · obtain ⟨x, rfl⟩ : ∃ x, xs = [x] := by
      match xs, h1 with
      | [x], _ => exact ⟨x, rfl⟩
    obtain ⟨hd, A', c', e, h3, _⟩ := h
    obtain ⟨b, o, rfl, h4⟩ := h3 (by simp)
    injection e with e1 e2 e3
    subst e1 e3
    have hc := h4 0 (by simp)
    have hx : x < 4294967296 := hd x (by simp)
    clear h3 h4 hd h1 e2 hl
    simp only [List.getD, List.getElem?_cons_zero, Option.getD_some, Nat.add_zero] at hc
    show Calls Tryz.prog 57 #[sv na (.slice (some ⟨b, o, none⟩) 1 c)] w _
    have hc2 : ∀ ob : Obj, (w.alloc ob).cell? ⟨b, o, none⟩ = some (.int .u32 (x : Int)) := fun ob => Lib.cell?_alloc_some ob hc
    clear hc
    by_cases hv : x = 1
    · subst hv
      go_enter Tryz.func57, Tryz.ntmps57
      go_wp2
      go_ret
      exact ⟨rfl, (Since.refl _).alloc _⟩
    · have e : decide ([x] = [1]) = false := by simp [hv]
      rw [e]
      have hz : ((x : Int) == 1) = false := by rw [beq_eq_false_iff_ne]; omega
      go_enter Tryz.func57, Tryz.ntmps57
      go_wp2
      go_ret
      exact ⟨rfl, (Since.refl _).alloc _⟩
  · have e : decide (xs = [1]) = false := by
      rw [decide_eq_false_iff_not]
      intro hx; rw [hx] at h1; exact h1 rfl
    rw [e]
    have hz : ((xs.length : Int) == 1) = false := by rw [beq_eq_false_iff_ne]; omega
    clear h e h1
    go_enter Tryz.func57, Tryz.ntmps57
    go_wp2
    go_ret
    exact ⟨rfl, (Since.refl _).alloc _⟩
end Go.Proofs.YtbbemgeinlehmaaGreatDoor.Sr04

namespace Go.Proofs.YtbbemgeinlehmaaGreatDoor.Sr04
open Go.RowKit
set_option linter.unusedVariables false
open Go.Proofs.YtbbemgeinlehmaaGreatDoor.Dig Go.Proofs.YtbbemgeinlehmaaGreatDoor.R4 Go.Proofs.YtbbemgeinlehmaaGreatDoor.Fr
open Go.Proofs.YtbbemgeinlehmaaGreatDoor.Ref03 (sv srightB gcdZ divZ negZ mulZ addZ cmpZ textZ sval ngB mag RetZ RetQR RetS)
set_option linter.unusedSimpArgs false
open Go.Proofs.YtbbemgeinlehmaaGreatDoor.Ref04

set_option maxRecDepth 100000 in
set_option maxHeartbeats 4000000 in
theorem lowest_any (A0 A1 : Option Addr) (c0 c1 : Nat) (na nb : Bool) (xs ys : List Nat) (w : World) (hx : Row w (.slice A0 xs.length c0) xs) (hy : Row w (.slice A1 ys.length c1) ys) (lx : xs.length ≤ 256) (ly : ys.length ≤ 256) {gs : List Nat} {p : Int × Int} (M : Low2 na xs nb ys gs p) :
    Calls Tryz.prog 43 #[sv na (.slice A0 xs.length c0), sv nb (.slice A1 ys.length c1)] w (RetF (fitF (Fr.red (sval na xs) (sval nb ys))) w) := by
  have H := Lib.hid (And.intro hx hy)
  have M := Lib.hid M
  have LL := Lib.hid (show xs.length ≤ 256 ∧ ys.length ≤ 256 from ⟨lx, ly⟩)
  clear hx hy lx ly
  have RR := Lib.hid M.out.red
  rw [RR.out]
  clear RR
  obtain ⟨W0, hW0⟩ : ∃ W0, W0 = ((w.alloc (.cells #[.bool na, .slice A0 xs.length c0] 29)).alloc (.cells #[.bool nb, .slice A1 ys.length c1] 29)).alloc (.cells #[.bool false, .slice none 0 0, .bool false, .slice none 0 0] 31) := ⟨_, rfl⟩
  have HW := Lib.hid hW0
  have hS0 : Since w W0 := by rw [hW0]; exact (((Since.refl w).alloc _).alloc _).alloc _
  have hbx : Hid (∀ W : World, Since W0 W → Bx W (w.heap.size) #[.bool na, .slice A0 xs.length c0] 29 ∧ Bx W (w.heap.size + 1) #[.bool nb, .slice A1 ys.length c1] 29 ∧ Bx W (w.heap.size + 1 + 1) #[.bool false, .slice none 0 0, .bool false, .slice none 0 0] 31) := fun W h => ⟨Bx.new ((since_alloc _ _).trans ((since_alloc _ _).trans (hW0 ▸ h))) (by simp), Bx.new ((since_alloc _ _).trans (hW0 ▸ h)) (by simp), Bx.new (hW0 ▸ h) (by simp)⟩
  clear hW0
  have hK := Since.refl W0
  go_enter Tryz.func43, Tryz.ntmps43
  go_wp2_with fail
  rw [← HW.out]
  obtain ⟨B0, B1, B2⟩ := hbx.out _ hK; obtain ⟨k0a, k0b⟩ := B0.two; obtain ⟨k1a, k1b⟩ := B1.two; obtain ⟨r0a, r0b, r0c, r0d⟩ := B2.four; obtain ⟨f0a, f0b, f0c, f0d⟩ := B2.four'
  go_upto_region 2 with (first
    | (go_at_call 64; (with_reducible refine (Sg03.gcd_any A0 A1 c0 c1 na nb xs ys _ (H.out.1.since (hS0.trans hK)) (H.out.2.since (hS0.trans hK)) (by have := LL.out; omega) (by have := LL.out; omega)).mono ?_); rw [M.out.gcd]; rintro e w1 ⟨Ag, cg, rfl, rg, h⟩; have hK := hK.trans h))
  have hS := Since.refl W0
  have qW : W0.heap.size ≤ w1.heap.size := hK.size
  obtain ⟨W1, hW1⟩ : ∃ W1, W1 = w1.alloc (.cells #[.bool false, .slice Ag gs.length cg] 29) := ⟨_, rfl⟩
  rw [← hW1]
  have hx : Since w1 W1 := by rw [hW1]; exact since_alloc _ _
  have hg := hK.trans hx
  have qbW1 : w.heap.size + 1 + 1 < w1.heap.size := (hbx.out _ (hS.trans hK)).2.2.lt
  have Vg : Hid (∀ W', Since W1 W' → Bx W' (w1.heap.size) #[.bool false, .slice Ag gs.length cg] 29) := fun W' h => Bx.new (hW1 ▸ h) (by simp)
  have rg := rg.since hx
  have hS := hS.trans hg
  clear hW1 hx hg hK
  generalize w1.heap.size = bkW1 at *
  have hK := Since.refl W1
  obtain ⟨B0, B1, B2⟩ := hbx.out _ (hS.trans hK)
  obtain ⟨k0a, k0b⟩ := B0.two
  obtain ⟨k1a, k1b⟩ := B1.two
  obtain ⟨r0a, r0b, r0c, r0d⟩ := B2.four
  obtain ⟨f0a, f0b, f0c, f0d⟩ := B2.four'
  obtain ⟨vga, vgb⟩ := (Vg.out _ hK).two
  go_upto_if 16 with fail
  go_cut [] (fun W => ∃ (Ah : Option Addr) (ch : Nat), Bx W bkW1 #[.bool nb, .slice Ah gs.length ch] 29 ∧ Row W (.slice Ah gs.length ch) gs ∧ Since W0 W)
  case first =>
    cases nb
    · go_wp2_with fail
      go_meet
      exact ⟨Ag, cg, Vg.out _ hK, rg, hS.trans hK⟩
    · go_wp2_with (first
        | (go_at_call 36; (with_reducible refine (neg_at Ag cg false gs _ (rg.since hK) (by have := M.out.glen; omega) M.out.neg).mono ?_); rintro e w4 ⟨An, cn, rfl, rn, h⟩; have hK := hK.trans h; obtain ⟨vga, vgb⟩ := (Vg.out _ hK).two; obtain ⟨wga, wgb⟩ := (Vg.out _ hK).two'))
      go_meet
      exact ⟨An, cn, (Vg.out _ hK).put2 _ _, (Vg.out _ hK).rowsI rn (put2_far _ _ _ _), since_put2 (hS.trans hK) qW _ _⟩
  case rest =>
    obtain ⟨Ah, ch, gg, rg, hs⟩ := hcut
    have Vg : Hid (∀ W', Since wc W' → Bx W' bkW1 #[.bool nb, .slice Ah gs.length ch] 29) := fun W' h => gg.since h
    clear hK hS B0 B1 B2 gg vga vgb
    have hS := hs
    clear hs
    have hK := Since.refl wc
    obtain ⟨B0, B1, B2⟩ := hbx.out _ (hS.trans hK)
    obtain ⟨k0a, k0b⟩ := B0.two
    obtain ⟨k1a, k1b⟩ := B1.two
    obtain ⟨r0a, r0b, r0c, r0d⟩ := B2.four
    obtain ⟨f0a, f0b, f0c, f0d⟩ := B2.four'
    obtain ⟨vga, vgb⟩ := (Vg.out _ hK).two
    go_upto_region 5 with fail
    have qW2 : W0.heap.size ≤ wc.heap.size := hS.size
    obtain ⟨W2, hW2⟩ : ∃ W2, W2 = wc.alloc (.cells #[.bool false, .slice none 0 0, .bool false, .slice none 0 0] 31) := ⟨_, rfl⟩
    rw [← hW2]
    have hx : Since wc W2 := by rw [hW2]; exact since_alloc _ _
    have hg := hK.trans hx
    have qbW2 : w.heap.size + 1 + 1 < wc.heap.size := (hbx.out _ (hS.trans hK)).2.2.lt
    have qgW2 : bkW1 < wc.heap.size := (Vg.out _ hK).lt
    have Va : Hid (∀ W', Since W2 W' → Bx W' (wc.heap.size) #[.bool false, .slice none 0 0, .bool false, .slice none 0 0] 31) := fun W' h => Bx.new (hW2 ▸ h) (by simp)
    have rg := rg.since hg
    have Vg : Hid (∀ W', Since W2 W' → _) := fun W' h => Vg.out W' (hg.trans h)
    have hS := hS.trans hg
    clear hW2 hx hg hK
    generalize wc.heap.size = bkW2 at *
    have hK := Since.refl W2
    obtain ⟨B0, B1, B2⟩ := hbx.out _ (hS.trans hK)
    obtain ⟨k0a, k0b⟩ := B0.two
    obtain ⟨k1a, k1b⟩ := B1.two
    obtain ⟨r0a, r0b, r0c, r0d⟩ := B2.four
    obtain ⟨f0a, f0b, f0c, f0d⟩ := B2.four'
    obtain ⟨vga, vgb⟩ := (Vg.out _ hK).two
    obtain ⟨vaa, vab, vac, vad⟩ := (Va.out _ hK).four
    obtain ⟨waa, wab, wac, wad⟩ := (Va.out _ hK).four'
    go_upto_region 6 with (first
      | (go_at_call 73; (with_reducible refine (div_at A0 Ah c0 ch na nb xs gs _ (H.out.1.since (hS0.trans (hS.trans hK))) (rg.since hK) (by have := LL.out; omega) (by have := M.out.glen; omega) M.out.dn).mono ?_); rintro e w5 ⟨An, cn, Am, cm, rfl, rn, rm, h⟩; have hK := hK.trans h; obtain ⟨vaa, vab, vac, vad⟩ := (Va.out _ hK).four; obtain ⟨waa, wab, wac, wad⟩ := (Va.out _ hK).four'; obtain ⟨B0, B1, B2⟩ := hbx.out _ (hS.trans hK); obtain ⟨k0a, k0b⟩ := B0.two; obtain ⟨k1a, k1b⟩ := B1.two; obtain ⟨r0a, r0b, r0c, r0d⟩ := B2.four; obtain ⟨f0a, f0b, f0c, f0d⟩ := B2.four'))
    have far := put2_far w5 bkW2 (.bool (ngB p.1)) (.slice An (mag p.1).length cn)
    have ga := put01 (Va.out _ hK) (.bool (ngB p.1)) (.slice An (mag p.1).length cn)
    have rn := (Va.out _ hK).rowsR rn far
    have rg := (Va.out _ hK).rowsR (rg.since hK) far
    have qg : bkW1 ≠ bkW2 := by omega
    have gg := (Vg.out _ hK).stay qg far
    have hs := since_put2 (hS.trans hK) qW2 (.bool (ngB p.1)) (.slice An (mag p.1).length cn)
    obtain ⟨W3, hW3⟩ : ∃ W3, W3 = put2 w5 bkW2 (.bool (ngB p.1)) (.slice An (mag p.1).length cn) := ⟨_, rfl⟩
    have hW3p : (w5.setCell ⟨bkW2, 0, none⟩ (.bool (ngB p.1))).setCell ⟨bkW2, 1, none⟩ (.slice An (mag p.1).length cn) = W3 := hW3.symm
    rw [hW3p]
    rw [← hW3] at ga rn rg gg hs
    clear hW3p hW3 far hK hS B0 B1 B2 Va Vg
    have hS := hs
    clear hs
    have hK := Since.refl W3
    have Va : Hid (∀ W', Since W3 W' → Bx W' bkW2 #[.bool (ngB p.1), .slice An (mag p.1).length cn, .bool false, .slice none 0 0] 31) := fun W' h => ga.since h
    have Vg : Hid (∀ W', Since W3 W' → Bx W' bkW1 #[.bool nb, .slice Ah gs.length ch] 29) := fun W' h => gg.since h
    clear ga gg
    obtain ⟨B0, B1, B2⟩ := hbx.out _ (hS.trans hK)
    obtain ⟨k0a, k0b⟩ := B0.two
    obtain ⟨k1a, k1b⟩ := B1.two
    obtain ⟨r0a, r0b, r0c, r0d⟩ := B2.four
    obtain ⟨f0a, f0b, f0c, f0d⟩ := B2.four'
    obtain ⟨vga, vgb⟩ := (Vg.out _ hK).two
    obtain ⟨vaa, vab, vac, vad⟩ := (Va.out _ hK).four
    obtain ⟨waa, wab, wac, wad⟩ := (Va.out _ hK).four'
    go_upto_region 7 with (first
      | (go_at_call 73; (with_reducible refine (div_at A1 Ah c1 ch nb nb ys gs _ (H.out.2.since (hS0.trans (hS.trans hK))) (rg.since hK) (by have := LL.out; omega) (by have := M.out.glen; omega) M.out.dd).mono ?_); rintro e w6 ⟨Ad, cd, Ap, cp, rfl, rd, rp, h⟩; have hK := hK.trans h; obtain ⟨vaa, vab, vac, vad⟩ := (Va.out _ hK).four; obtain ⟨waa, wab, wac, wad⟩ := (Va.out _ hK).four'; obtain ⟨B0, B1, B2⟩ := hbx.out _ (hS.trans hK); obtain ⟨k0a, k0b⟩ := B0.two; obtain ⟨k1a, k1b⟩ := B1.two; obtain ⟨r0a, r0b, r0c, r0d⟩ := B2.four; obtain ⟨f0a, f0b, f0c, f0d⟩ := B2.four'))
    have far := put23_far w6 bkW2 (.bool (ngB p.2)) (.slice Ad (mag p.2).length cd)
    have ga := put23 (Va.out _ hK) (.bool (ngB p.2)) (.slice Ad (mag p.2).length cd)
    have rn := (Va.out _ hK).rowsR (rn.since hK) far
    have rd := (Va.out _ hK).rowsR rd far
    have hs := since_put23 (hS.trans hK) qW2 (.bool (ngB p.2)) (.slice Ad (mag p.2).length cd)
    obtain ⟨W4, hW4⟩ : ∃ W4, W4 = (w6.setCell ⟨bkW2, 2, none⟩ (.bool (ngB p.2))).setCell ⟨bkW2, 3, none⟩ (.slice Ad (mag p.2).length cd) := ⟨_, rfl⟩
    rw [← hW4]
    rw [← hW4] at ga rn rd hs
    clear hW4 far hK hS B0 B1 B2 Va Vg rg
    have hS := hs
    clear hs
    have hK := Since.refl W4
    have Va : Hid (∀ W', Since W4 W' → Bx W' bkW2 #[.bool (ngB p.1), .slice An (mag p.1).length cn, .bool (ngB p.2), .slice Ad (mag p.2).length cd] 31) := fun W' h => ga.since h
    clear ga
    obtain ⟨B0, B1, B2⟩ := hbx.out _ (hS.trans hK)
    obtain ⟨k0a, k0b⟩ := B0.two
    obtain ⟨k1a, k1b⟩ := B1.two
    obtain ⟨r0a, r0b, r0c, r0d⟩ := B2.four
    obtain ⟨f0a, f0b, f0c, f0d⟩ := B2.four'
    obtain ⟨vaa, vab, vac, vad⟩ := (Va.out _ hK).four
    by_cases l1 : (mag p.1).length ≤ 64
    rotate_left
    · have FN := Lib.hid (show fitF p = (nilF, 3) from if_neg (fun h => l1 h.1))
      have L1 := Lib.hid (decide_eq_false l1)
      clear l1
      go_wp2_with (first
        | (go_at_call 63; (with_reducible refine (fits_any An (mag p.1).length cn (ngB p.1) _).mono ?_); rw [L1.out]; rintro e w7 ⟨rfl, h⟩; have hK := hK.trans h; obtain ⟨B0, B1, B2⟩ := hbx.out _ (hS.trans hK); obtain ⟨k0a, k0b⟩ := B0.two; obtain ⟨k1a, k1b⟩ := B1.two; obtain ⟨r0a, r0b, r0c, r0d⟩ := B2.four; obtain ⟨f0a, f0b, f0c, f0d⟩ := B2.four'; obtain ⟨vaa, vab, vac, vad⟩ := (Va.out _ hK).four))
      refine bodyPost_ret (v := (.tuple #[.agg #[.bool false, .slice none 0 0, .bool false, .slice none 0 0], .int .i64 3])) ?_ rfl ?_
      · simp [results, Tryz.results43, go_sem, r0a, r0b, r0c, r0d]
      · rw [FN.out]; exact ⟨_, _, _, _, rfl, B2.rowsR (Row.nil _) (put4_far _ _ _ _ _ _), B2.rowsR (Row.nil _) (put4_far _ _ _ _ _ _), since_put4 (hS0.trans (hS.trans hK)) (by omega) _ _ _ _⟩
    have L1 := Lib.hid (decide_eq_true l1)
    by_cases l2 : (mag p.2).length ≤ 64
    rotate_left
    · have FN := Lib.hid (show fitF p = (nilF, 3) from if_neg (fun h => l2 h.2))
      have L2 := Lib.hid (decide_eq_false l2)
      clear l1 l2
      go_wp2_with (first
        | (go_at_call 63; (with_reducible refine (fits_any An (mag p.1).length cn (ngB p.1) _).mono ?_); rw [L1.out]; rintro e w7 ⟨rfl, h⟩; have hK := hK.trans h; obtain ⟨B0, B1, B2⟩ := hbx.out _ (hS.trans hK); obtain ⟨k0a, k0b⟩ := B0.two; obtain ⟨k1a, k1b⟩ := B1.two; obtain ⟨r0a, r0b, r0c, r0d⟩ := B2.four; obtain ⟨f0a, f0b, f0c, f0d⟩ := B2.four'; obtain ⟨vaa, vab, vac, vad⟩ := (Va.out _ hK).four)
        | (go_at_call 63; (with_reducible refine (fits_any Ad (mag p.2).length cd (ngB p.2) _).mono ?_); rw [L2.out]; rintro e w8 ⟨rfl, h⟩; have hK := hK.trans h; obtain ⟨B0, B1, B2⟩ := hbx.out _ (hS.trans hK); obtain ⟨k0a, k0b⟩ := B0.two; obtain ⟨k1a, k1b⟩ := B1.two; obtain ⟨r0a, r0b, r0c, r0d⟩ := B2.four; obtain ⟨f0a, f0b, f0c, f0d⟩ := B2.four'; obtain ⟨vaa, vab, vac, vad⟩ := (Va.out _ hK).four))
      refine bodyPost_ret (v := (.tuple #[.agg #[.bool false, .slice none 0 0, .bool false, .slice none 0 0], .int .i64 3])) ?_ rfl ?_
      · simp [results, Tryz.results43, go_sem, r0a, r0b, r0c, r0d]
      · rw [FN.out]; exact ⟨_, _, _, _, rfl, B2.rowsR (Row.nil _) (put4_far _ _ _ _ _ _), B2.rowsR (Row.nil _) (put4_far _ _ _ _ _ _), since_put4 (hS0.trans (hS.trans hK)) (by omega) _ _ _ _⟩
    have L2 := Lib.hid (decide_eq_true l2)
    have FN := Lib.hid (fitF_fit l1 l2)
    clear l1 l2
    go_wp2_with (first
      | (go_at_call 63; (with_reducible refine (fits_any An (mag p.1).length cn (ngB p.1) _).mono ?_); rw [L1.out]; rintro e w7 ⟨rfl, h⟩; have hK := hK.trans h; obtain ⟨B0, B1, B2⟩ := hbx.out _ (hS.trans hK); obtain ⟨k0a, k0b⟩ := B0.two; obtain ⟨k1a, k1b⟩ := B1.two; obtain ⟨r0a, r0b, r0c, r0d⟩ := B2.four; obtain ⟨f0a, f0b, f0c, f0d⟩ := B2.four'; obtain ⟨vaa, vab, vac, vad⟩ := (Va.out _ hK).four)
      | (go_at_call 63; (with_reducible refine (fits_any Ad (mag p.2).length cd (ngB p.2) _).mono ?_); rw [L2.out]; rintro e w8 ⟨rfl, h⟩; have hK := hK.trans h; obtain ⟨B0, B1, B2⟩ := hbx.out _ (hS.trans hK); obtain ⟨k0a, k0b⟩ := B0.two; obtain ⟨k1a, k1b⟩ := B1.two; obtain ⟨r0a, r0b, r0c, r0d⟩ := B2.four; obtain ⟨f0a, f0b, f0c, f0d⟩ := B2.four'; obtain ⟨vaa, vab, vac, vad⟩ := (Va.out _ hK).four))
    refine bodyPost_ret (v := (.tuple #[.agg #[.bool (ngB p.1), .slice An (mag p.1).length cn, .bool (ngB p.2), .slice Ad (mag p.2).length cd], .int .i64 0])) ?_ rfl ?_
    · simp [results, Tryz.results43, go_sem, r0a, r0b, r0c, r0d]
    · rw [FN.out]; exact ⟨_, _, _, _, rfl, B2.rowsR (rn.since hK) (put4_far _ _ _ _ _ _), B2.rowsR (rd.since hK) (put4_far _ _ _ _ _ _), since_put4 (hS0.trans (hS.trans hK)) (by omega) _ _ _ _⟩
end Go.Proofs.YtbbemgeinlehmaaGreatDoor.Sr04

namespace Go.Proofs.YtbbemgeinlehmaaGreatDoor.Sr04
open Go.RowKit
set_option linter.unusedVariables false
open Go.Proofs.YtbbemgeinlehmaaGreatDoor.Dig Go.Proofs.YtbbemgeinlehmaaGreatDoor.R4 Go.Proofs.YtbbemgeinlehmaaGreatDoor.Fr
open Go.Proofs.YtbbemgeinlehmaaGreatDoor.Ref03 (sv srightB gcdZ divZ negZ mulZ addZ cmpZ textZ sval ngB mag RetZ RetQR RetS)
set_option linter.unusedSimpArgs false
open Go.Proofs.YtbbemgeinlehmaaGreatDoor.Ref04

set_option maxRecDepth 100000 in
set_option maxHeartbeats 4000000 in
theorem right_any (A0 A1 : Option Addr) (c0 c1 : Nat) (na nb : Bool) (xs ys : List Nat) (w : World) (hx : Row w (.slice A0 xs.length c0) xs) (hy : Row w (.slice A1 ys.length c1) ys) (lx : xs.length ≤ 1000) (ly : ys.length ≤ 1000) :
    Calls Tryz.prog 35 #[.agg #[.bool na, .slice A0 xs.length c0, .bool nb, .slice A1 ys.length c1]] w fun e w' => e = .returned (.bool (rrB ((na, xs), (nb, ys)))) ∧ Since w w' := by
  have H := Lib.hid (And.intro hx hy)
  have LL := Lib.hid (And.intro lx ly)
  obtain ⟨W0, hW0⟩ : ∃ W0, W0 = w.alloc (.cells #[.bool na, .slice A0 xs.length c0, .bool nb, .slice A1 ys.length c1] 31) := ⟨_, rfl⟩
  have HW := Lib.hid hW0
  have hS0 : Since w W0 := by rw [hW0]; exact (Since.refl w).alloc _
  have hbx : Hid (∀ W : World, Since W0 W → Bx W (w.heap.size) #[.bool na, .slice A0 xs.length c0, .bool nb, .slice A1 ys.length c1] 31) := fun W h => Bx.new (hW0 ▸ h) (by simp)
  clear hW0
  have hK := Since.refl W0
  clear hx hy lx ly
  by_cases l1 : xs.length ≤ 64
  rotate_left
  · have FN := Lib.hid (show rrB ((na, xs), (nb, ys)) = false by simp [rrB, wellB, l1])
    have L1 := Lib.hid (decide_eq_false l1)
    clear l1
    go_enter Tryz.func35, Tryz.ntmps35
    go_wp2_with fail
    rw [← HW.out]
    obtain B0 := hbx.out _ hK; obtain ⟨k0a, k0b, k0c, k0d⟩ := B0.four
    go_wp2_with (first
      | (go_at_call 63; (with_reducible refine (fits_any A0 xs.length c0 na _).mono ?_); rw [L1.out]; rintro e w1 ⟨rfl, h⟩; have hK := hK.trans h; obtain B0 := hbx.out _ hK; obtain ⟨k0a, k0b, k0c, k0d⟩ := B0.four))
    go_ret
    exact ⟨by simp [FN.out], hS0.trans hK⟩
  have L1 := Lib.hid (decide_eq_true l1)
  by_cases l2 : ys.length ≤ 64
  rotate_left
  · have FN := Lib.hid (show rrB ((na, xs), (nb, ys)) = false by simp [rrB, wellB, l2])
    have L2 := Lib.hid (decide_eq_false l2)
    clear l1 l2
    go_enter Tryz.func35, Tryz.ntmps35
    go_wp2_with fail
    rw [← HW.out]
    obtain B0 := hbx.out _ hK; obtain ⟨k0a, k0b, k0c, k0d⟩ := B0.four
    go_wp2_with (first
      | (go_at_call 63; (with_reducible refine (fits_any A0 xs.length c0 na _).mono ?_); rw [L1.out]; rintro e w1 ⟨rfl, h⟩; have hK := hK.trans h; obtain B0 := hbx.out _ hK; obtain ⟨k0a, k0b, k0c, k0d⟩ := B0.four)
      | (go_at_call 63; (with_reducible refine (fits_any A1 ys.length c1 nb _).mono ?_); rw [L2.out]; rintro e w2 ⟨rfl, h⟩; have hK := hK.trans h; obtain B0 := hbx.out _ hK; obtain ⟨k0a, k0b, k0c, k0d⟩ := B0.four))
    go_ret
    exact ⟨by simp [FN.out], hS0.trans hK⟩
  have L2 := Lib.hid (decide_eq_true l2)
  by_cases h0 : ys.length = 0
  · have FN := Lib.hid (show rrB ((na, xs), (nb, ys)) = false by simp [rrB, wellB, h0])
    have Z0 := Lib.hid (decide_eq_true h0)
    clear l1 l2 h0
    go_enter Tryz.func35, Tryz.ntmps35
    go_wp2_with fail
    rw [← HW.out]
    obtain B0 := hbx.out _ hK; obtain ⟨k0a, k0b, k0c, k0d⟩ := B0.four
    go_wp2_with (first
      | (go_at_call 63; (with_reducible refine (fits_any A0 xs.length c0 na _).mono ?_); rw [L1.out]; rintro e w1 ⟨rfl, h⟩; have hK := hK.trans h; obtain B0 := hbx.out _ hK; obtain ⟨k0a, k0b, k0c, k0d⟩ := B0.four)
      | (go_at_call 63; (with_reducible refine (fits_any A1 ys.length c1 nb _).mono ?_); rw [L2.out]; rintro e w2 ⟨rfl, h⟩; have hK := hK.trans h; obtain B0 := hbx.out _ hK; obtain ⟨k0a, k0b, k0c, k0d⟩ := B0.four)
      | (go_at_call 52; (with_reducible refine (zero_any A1 ys.length c1 nb _).mono ?_); rw [Z0.out]; rintro e w3 ⟨rfl, h⟩; have hK := hK.trans h; obtain B0 := hbx.out _ hK; obtain ⟨k0a, k0b, k0c, k0d⟩ := B0.four))
    go_ret
    exact ⟨by simp [FN.out], hS0.trans hK⟩
  have Z0 := Lib.hid (decide_eq_false h0)
  cases nb
  rotate_left
  · have FN := Lib.hid (show rrB ((na, xs), (true, ys)) = false by simp [rrB, wellB])
    clear l1 l2 h0
    go_enter Tryz.func35, Tryz.ntmps35
    go_wp2_with fail
    rw [← HW.out]
    obtain B0 := hbx.out _ hK; obtain ⟨k0a, k0b, k0c, k0d⟩ := B0.four
    go_wp2_with (first
      | (go_at_call 63; (with_reducible refine (fits_any A0 xs.length c0 na _).mono ?_); rw [L1.out]; rintro e w1 ⟨rfl, h⟩; have hK := hK.trans h; obtain B0 := hbx.out _ hK; obtain ⟨k0a, k0b, k0c, k0d⟩ := B0.four)
      | (go_at_call 63; (with_reducible refine (fits_any A1 ys.length c1 true _).mono ?_); rw [L2.out]; rintro e w2 ⟨rfl, h⟩; have hK := hK.trans h; obtain B0 := hbx.out _ hK; obtain ⟨k0a, k0b, k0c, k0d⟩ := B0.four)
      | (go_at_call 52; (with_reducible refine (zero_any A1 ys.length c1 true _).mono ?_); rw [Z0.out]; rintro e w3 ⟨rfl, h⟩; have hK := hK.trans h; obtain B0 := hbx.out _ hK; obtain ⟨k0a, k0b, k0c, k0d⟩ := B0.four))
    go_ret
    exact ⟨by simp [FN.out], hS0.trans hK⟩
  by_cases r : srightB na xs = true ∧ srightB false ys = true
  rotate_left
  · have FN := Lib.hid (show rrB ((na, xs), (false, ys)) = false by simp only [rrB, wellB]; cases q1 : srightB na xs <;> cases q2 : srightB false ys <;> first | rfl | (exact absurd ⟨q1, q2⟩ r))
    have GC := Lib.hid (show gcdZ na xs false ys = ((false, []), 2) from if_neg r)
    clear l1 l2 h0 r
    go_enter Tryz.func35, Tryz.ntmps35
    go_wp2_with fail
    rw [← HW.out]
    obtain B0 := hbx.out _ hK; obtain ⟨k0a, k0b, k0c, k0d⟩ := B0.four
    go_wp2_with (first
      | (go_at_call 63; (with_reducible refine (fits_any A0 xs.length c0 na _).mono ?_); rw [L1.out]; rintro e w1 ⟨rfl, h⟩; have hK := hK.trans h; obtain B0 := hbx.out _ hK; obtain ⟨k0a, k0b, k0c, k0d⟩ := B0.four)
      | (go_at_call 63; (with_reducible refine (fits_any A1 ys.length c1 false _).mono ?_); rw [L2.out]; rintro e w2 ⟨rfl, h⟩; have hK := hK.trans h; obtain B0 := hbx.out _ hK; obtain ⟨k0a, k0b, k0c, k0d⟩ := B0.four)
      | (go_at_call 52; (with_reducible refine (zero_any A1 ys.length c1 false _).mono ?_); rw [Z0.out]; rintro e w3 ⟨rfl, h⟩; have hK := hK.trans h; obtain B0 := hbx.out _ hK; obtain ⟨k0a, k0b, k0c, k0d⟩ := B0.four)
      | (go_at_call 64; (with_reducible refine (Sg03.gcd_any A0 A1 c0 c1 na false xs ys _ (H.out.1.since (hS0.trans hK)) (H.out.2.since (hS0.trans hK)) (by have := LL.out; omega) (by have := LL.out; omega)).mono ?_); rw [GC.out]; rintro e w4 ⟨A2, c2, rfl, hg, h⟩; have hK := hK.trans h; obtain B0 := hbx.out _ hK; obtain ⟨k0a, k0b, k0c, k0d⟩ := B0.four))
    go_ret
    exact ⟨by simp [FN.out], hS0.trans (hK.trans (since_alloc _ _))⟩
  have GC := Lib.hid (show gcdZ na xs false ys = ((false, digs (Nat.gcd (num xs) (num ys))), 0) from if_pos r)
  have GL := Lib.hid (gcd_len (Ref03.sright_right r.1) H.out.1.dig (Ref03.sright_right r.2) H.out.2.dig)
  obtain ⟨gs, hgs⟩ : ∃ gs, gs = digs (Nat.gcd (num xs) (num ys)) := ⟨_, rfl⟩
  have FN := Lib.hid (show rrB ((na, xs), (false, ys)) = decide (gs = [1]) by have e := one_digs (Nat.gcd (num xs) (num ys)); simp only [rrB, wellB]; rw [r.1, r.2, ← e, hgs]; simp [oneB, l1, l2, h0])
  rw [← hgs] at GC GL
  clear hgs l1 l2 h0 r
  go_enter Tryz.func35, Tryz.ntmps35
  go_wp2_with fail
  rw [← HW.out]
  obtain B0 := hbx.out _ hK; obtain ⟨k0a, k0b, k0c, k0d⟩ := B0.four
  go_wp2_with (first
    | (go_at_call 63; (with_reducible refine (fits_any A0 xs.length c0 na _).mono ?_); rw [L1.out]; rintro e w1 ⟨rfl, h⟩; have hK := hK.trans h; obtain B0 := hbx.out _ hK; obtain ⟨k0a, k0b, k0c, k0d⟩ := B0.four)
    | (go_at_call 63; (with_reducible refine (fits_any A1 ys.length c1 false _).mono ?_); rw [L2.out]; rintro e w2 ⟨rfl, h⟩; have hK := hK.trans h; obtain B0 := hbx.out _ hK; obtain ⟨k0a, k0b, k0c, k0d⟩ := B0.four)
    | (go_at_call 52; (with_reducible refine (zero_any A1 ys.length c1 false _).mono ?_); rw [Z0.out]; rintro e w3 ⟨rfl, h⟩; have hK := hK.trans h; obtain B0 := hbx.out _ hK; obtain ⟨k0a, k0b, k0c, k0d⟩ := B0.four)
    | (go_at_call 64; (with_reducible refine (Sg03.gcd_any A0 A1 c0 c1 na false xs ys _ (H.out.1.since (hS0.trans hK)) (H.out.2.since (hS0.trans hK)) (by have := LL.out; omega) (by have := LL.out; omega)).mono ?_); rw [GC.out]; rintro e w4 ⟨A2, c2, rfl, hg, h⟩; have hK := hK.trans h; obtain B0 := hbx.out _ hK; obtain ⟨k0a, k0b, k0c, k0d⟩ := B0.four)
    | (go_at_call 57; (with_reducible refine (one_any A2 c2 false gs _ (hg.since (since_alloc _ _)) (by have := GL.out; omega)).mono ?_); rintro e w5 ⟨rfl, h⟩; have hK := (hK.trans (since_alloc _ _)).trans h))
  go_ret
  exact ⟨by rw [FN.out]; rfl, hS0.trans hK⟩
end Go.Proofs.YtbbemgeinlehmaaGreatDoor.Sr04

namespace Go.Proofs.YtbbemgeinlehmaaGreatDoor.Sr04
open Go.RowKit
set_option linter.unusedVariables false
open Go.Proofs.YtbbemgeinlehmaaGreatDoor.Dig Go.Proofs.YtbbemgeinlehmaaGreatDoor.R4 Go.Proofs.YtbbemgeinlehmaaGreatDoor.Fr
open Go.Proofs.YtbbemgeinlehmaaGreatDoor.Ref03 (sv srightB gcdZ divZ negZ mulZ addZ cmpZ textZ sval ngB mag RetZ RetQR RetS)
set_option linter.unusedSimpArgs false
open Go.Proofs.YtbbemgeinlehmaaGreatDoor.Ref04

theorem of_one (w : World) : Calls Tryz.prog 38 #[.int .i64 1] w (RetS (ngB 1) (mag 1) w) := Sg03.of_any 1 w (by omega)
set_option maxRecDepth 100000 in
set_option maxHeartbeats 4000000 in
theorem of_any (n : Int) (w : World) (hn : -9223372036854775808 ≤ n ∧ n ≤ 9223372036854775807) :
    Calls Tryz.prog 39 #[.int .i64 n] w (RetFv (ofR n) w) := by
  obtain ⟨W0, hW0⟩ : ∃ W0, W0 = w.alloc (.cells #[.bool false, .slice none 0 0, .bool false, .slice none 0 0] 31) := ⟨_, rfl⟩
  have HW := Lib.hid hW0
  have hS0 : Since w W0 := by rw [hW0]; exact (Since.refl w).alloc _
  have hbx : Hid (∀ W : World, Since W0 W → Bx W (w.heap.size) #[.bool false, .slice none 0 0, .bool false, .slice none 0 0] 31) := fun W h => Bx.new (hW0 ▸ h) (by simp)
  clear hW0
  have hK := Since.refl W0
  go_enter Tryz.func39, Tryz.ntmps39
  go_wp2_with fail
  rw [← HW.out]
  go_wp2_with (first
    | (go_at_call 38; (with_reducible refine (of_one _).mono ?_); rintro e w2 ⟨Y, y, rfl, ry, h⟩; have rx := rx.since h; have hK := hK.trans h; obtain B0 := hbx.out _ hK; obtain ⟨r0a, r0b, r0c, r0d⟩ := B0.four; obtain ⟨f0a, f0b, f0c, f0d⟩ := B0.four')
    | (go_at_call 38; (with_reducible refine (Sg03.of_any n _ hn).mono ?_); rintro e w1 ⟨X, x, rfl, rx, h⟩; have hK := hK.trans h; obtain B0 := hbx.out _ hK; obtain ⟨r0a, r0b, r0c, r0d⟩ := B0.four; obtain ⟨f0a, f0b, f0c, f0d⟩ := B0.four'))
  have gr := hbx.out _ hK
  obtain ⟨r0a, r0b, r0c, r0d⟩ := gr.four
  obtain ⟨f0a, f0b, f0c, f0d⟩ := gr.four'
  go_wp2_with fail
  obtain ⟨r0a, r0b, r0c, r0d⟩ := gr.four
  obtain ⟨f0a, f0b, f0c, f0d⟩ := gr.four'
  refine bodyPost_ret (v := (.agg #[.bool (ngB n), .slice X (mag n).length x, .bool (ngB 1), .slice Y (mag 1).length y])) ?_ rfl ?_
  · simp [results, Tryz.results39, go_sem, r0a, r0b, r0c, r0d]
  · exact ⟨_, _, _, _, rfl, gr.rowsR rx (put4_far _ _ _ _ _ _), gr.rowsR ry (put4_far _ _ _ _ _ _), since_put4 (hS0.trans hK) (by omega) _ _ _ _⟩
end Go.Proofs.YtbbemgeinlehmaaGreatDoor.Sr04

namespace Go.Proofs.YtbbemgeinlehmaaGreatDoor.Sr04
open Go.RowKit
set_option linter.unusedVariables false
open Go.Proofs.YtbbemgeinlehmaaGreatDoor.Dig Go.Proofs.YtbbemgeinlehmaaGreatDoor.R4 Go.Proofs.YtbbemgeinlehmaaGreatDoor.Fr
open Go.Proofs.YtbbemgeinlehmaaGreatDoor.Ref03 (sv srightB gcdZ divZ negZ mulZ addZ cmpZ textZ sval ngB mag RetZ RetQR RetS)
set_option linter.unusedSimpArgs false
open Go.Proofs.YtbbemgeinlehmaaGreatDoor.Ref04

set_option maxRecDepth 100000 in
set_option maxHeartbeats 4000000 in
theorem make_any (A0 A1 : Option Addr) (c0 c1 : Nat) (na nb : Bool) (xs ys : List Nat) (w : World) (hx : Row w (.slice A0 xs.length c0) xs) (hy : Row w (.slice A1 ys.length c1) ys) (lx : xs.length ≤ 1000) (ly : ys.length ≤ 1000) :
    Calls Tryz.prog 37 #[sv na (.slice A0 xs.length c0), sv nb (.slice A1 ys.length c1)] w (RetF (makeR (na, xs) (nb, ys)) w) := by
  have H := Lib.hid (And.intro hx hy)
  have LL := Lib.hid (And.intro lx ly)
  clear hx hy lx ly
  obtain ⟨W0, hW0⟩ : ∃ W0, W0 = ((w.alloc (.cells #[.bool na, .slice A0 xs.length c0] 29)).alloc (.cells #[.bool nb, .slice A1 ys.length c1] 29)).alloc (.cells #[.bool false, .slice none 0 0, .bool false, .slice none 0 0] 31) := ⟨_, rfl⟩
  have HW := Lib.hid hW0
  have hS0 : Since w W0 := by rw [hW0]; exact (((Since.refl w).alloc _).alloc _).alloc _
  have hbx : Hid (∀ W : World, Since W0 W → Bx W (w.heap.size) #[.bool na, .slice A0 xs.length c0] 29 ∧ Bx W (w.heap.size + 1) #[.bool nb, .slice A1 ys.length c1] 29 ∧ Bx W (w.heap.size + 1 + 1) #[.bool false, .slice none 0 0, .bool false, .slice none 0 0] 31) := fun W h => ⟨Bx.new ((since_alloc _ _).trans ((since_alloc _ _).trans (hW0 ▸ h))) (by simp), Bx.new ((since_alloc _ _).trans (hW0 ▸ h)) (by simp), Bx.new (hW0 ▸ h) (by simp)⟩
  clear hW0
  have hK := Since.refl W0
  by_cases r1 : srightB na xs = true
  rotate_left
  · have FN := Lib.hid (show makeR (na, xs) (nb, ys) = (nilF, 2) from if_neg (fun h => r1 h.1.1))
    have R1 := Lib.hid (show srightB na xs = false by simpa using r1)
    clear r1
    go_enter Tryz.func37, Tryz.ntmps37
    go_wp2_with fail
    rw [← HW.out]
    obtain ⟨B0, B1, B2⟩ := hbx.out _ hK; obtain ⟨k0a, k0b⟩ := B0.two; obtain ⟨k1a, k1b⟩ := B1.two; obtain ⟨r0a, r0b, r0c, r0d⟩ := B2.four; obtain ⟨f0a, f0b, f0c, f0d⟩ := B2.four'
    go_wp2_with (first
      | (go_at_call 65; (with_reducible refine (Sg03.right_any (.slice A0 xs.length c0) na xs _ (H.out.1.since (hS0.trans hK)) (by have := LL.out; omega)).mono ?_); rw [R1.out]; rintro e w1 ⟨rfl, h⟩; have hK := hK.trans h; obtain ⟨B0, B1, B2⟩ := hbx.out _ hK; obtain ⟨k0a, k0b⟩ := B0.two; obtain ⟨k1a, k1b⟩ := B1.two; obtain ⟨r0a, r0b, r0c, r0d⟩ := B2.four; obtain ⟨f0a, f0b, f0c, f0d⟩ := B2.four')
      | (go_at_call 65; (with_reducible refine (Sg03.right_any (.slice A1 ys.length c1) nb ys _ (H.out.2.since (hS0.trans hK)) (by have := LL.out; omega)).mono ?_); rw [R2.out]; rintro e w2 ⟨rfl, h⟩; have hK := hK.trans h; obtain ⟨B0, B1, B2⟩ := hbx.out _ hK; obtain ⟨k0a, k0b⟩ := B0.two; obtain ⟨k1a, k1b⟩ := B1.two; obtain ⟨r0a, r0b, r0c, r0d⟩ := B2.four; obtain ⟨f0a, f0b, f0c, f0d⟩ := B2.four')
      | (go_at_call 52; (with_reducible refine (zero_any A1 ys.length c1 nb _).mono ?_); rw [Z0.out]; rintro e w3 ⟨rfl, h⟩; have hK := hK.trans h; obtain ⟨B0, B1, B2⟩ := hbx.out _ hK; obtain ⟨k0a, k0b⟩ := B0.two; obtain ⟨k1a, k1b⟩ := B1.two; obtain ⟨r0a, r0b, r0c, r0d⟩ := B2.four; obtain ⟨f0a, f0b, f0c, f0d⟩ := B2.four'))
    have gr := (hbx.out _ hK).2.2
    obtain ⟨r0a, r0b, r0c, r0d⟩ := gr.four
    obtain ⟨f0a, f0b, f0c, f0d⟩ := gr.four'
    refine bodyPost_ret (v := (.tuple #[.agg #[.bool false, .slice none 0 0, .bool false, .slice none 0 0], .int .i64 2])) ?_ rfl ?_
    · simp [results, Tryz.results37, go_sem, r0a, r0b, r0c, r0d]
    · rw [FN.out]; exact ⟨_, _, _, _, rfl, gr.rowsR (Row.nil _) (put4_far _ _ _ _ _ _), gr.rowsR (Row.nil _) (put4_far _ _ _ _ _ _), since_put4 (hS0.trans hK) (by omega) _ _ _ _⟩
  have R1 := Lib.hid r1
  by_cases r2 : srightB nb ys = true
  rotate_left
  · have FN := Lib.hid (show makeR (na, xs) (nb, ys) = (nilF, 2) from if_neg (fun h => r2 h.1.2))
    have R2 := Lib.hid (show srightB nb ys = false by simpa using r2)
    clear r1 r2
    go_enter Tryz.func37, Tryz.ntmps37
    go_wp2_with fail
    rw [← HW.out]
    obtain ⟨B0, B1, B2⟩ := hbx.out _ hK; obtain ⟨k0a, k0b⟩ := B0.two; obtain ⟨k1a, k1b⟩ := B1.two; obtain ⟨r0a, r0b, r0c, r0d⟩ := B2.four; obtain ⟨f0a, f0b, f0c, f0d⟩ := B2.four'
    go_wp2_with (first
      | (go_at_call 65; (with_reducible refine (Sg03.right_any (.slice A0 xs.length c0) na xs _ (H.out.1.since (hS0.trans hK)) (by have := LL.out; omega)).mono ?_); rw [R1.out]; rintro e w1 ⟨rfl, h⟩; have hK := hK.trans h; obtain ⟨B0, B1, B2⟩ := hbx.out _ hK; obtain ⟨k0a, k0b⟩ := B0.two; obtain ⟨k1a, k1b⟩ := B1.two; obtain ⟨r0a, r0b, r0c, r0d⟩ := B2.four; obtain ⟨f0a, f0b, f0c, f0d⟩ := B2.four')
      | (go_at_call 65; (with_reducible refine (Sg03.right_any (.slice A1 ys.length c1) nb ys _ (H.out.2.since (hS0.trans hK)) (by have := LL.out; omega)).mono ?_); rw [R2.out]; rintro e w2 ⟨rfl, h⟩; have hK := hK.trans h; obtain ⟨B0, B1, B2⟩ := hbx.out _ hK; obtain ⟨k0a, k0b⟩ := B0.two; obtain ⟨k1a, k1b⟩ := B1.two; obtain ⟨r0a, r0b, r0c, r0d⟩ := B2.four; obtain ⟨f0a, f0b, f0c, f0d⟩ := B2.four')
      | (go_at_call 52; (with_reducible refine (zero_any A1 ys.length c1 nb _).mono ?_); rw [Z0.out]; rintro e w3 ⟨rfl, h⟩; have hK := hK.trans h; obtain ⟨B0, B1, B2⟩ := hbx.out _ hK; obtain ⟨k0a, k0b⟩ := B0.two; obtain ⟨k1a, k1b⟩ := B1.two; obtain ⟨r0a, r0b, r0c, r0d⟩ := B2.four; obtain ⟨f0a, f0b, f0c, f0d⟩ := B2.four'))
    have gr := (hbx.out _ hK).2.2
    obtain ⟨r0a, r0b, r0c, r0d⟩ := gr.four
    obtain ⟨f0a, f0b, f0c, f0d⟩ := gr.four'
    refine bodyPost_ret (v := (.tuple #[.agg #[.bool false, .slice none 0 0, .bool false, .slice none 0 0], .int .i64 2])) ?_ rfl ?_
    · simp [results, Tryz.results37, go_sem, r0a, r0b, r0c, r0d]
    · rw [FN.out]; exact ⟨_, _, _, _, rfl, gr.rowsR (Row.nil _) (put4_far _ _ _ _ _ _), gr.rowsR (Row.nil _) (put4_far _ _ _ _ _ _), since_put4 (hS0.trans hK) (by omega) _ _ _ _⟩
  have R2 := Lib.hid r2
  by_cases h0 : ys.length = 0
  · have FN := Lib.hid (show makeR (na, xs) (nb, ys) = (nilF, 2) from if_neg (fun h => h.2 h0))
    have Z0 := Lib.hid (decide_eq_true h0)
    clear r1 r2 h0
    go_enter Tryz.func37, Tryz.ntmps37
    go_wp2_with fail
    rw [← HW.out]
    obtain ⟨B0, B1, B2⟩ := hbx.out _ hK; obtain ⟨k0a, k0b⟩ := B0.two; obtain ⟨k1a, k1b⟩ := B1.two; obtain ⟨r0a, r0b, r0c, r0d⟩ := B2.four; obtain ⟨f0a, f0b, f0c, f0d⟩ := B2.four'
    go_wp2_with (first
      | (go_at_call 65; (with_reducible refine (Sg03.right_any (.slice A0 xs.length c0) na xs _ (H.out.1.since (hS0.trans hK)) (by have := LL.out; omega)).mono ?_); rw [R1.out]; rintro e w1 ⟨rfl, h⟩; have hK := hK.trans h; obtain ⟨B0, B1, B2⟩ := hbx.out _ hK; obtain ⟨k0a, k0b⟩ := B0.two; obtain ⟨k1a, k1b⟩ := B1.two; obtain ⟨r0a, r0b, r0c, r0d⟩ := B2.four; obtain ⟨f0a, f0b, f0c, f0d⟩ := B2.four')
      | (go_at_call 65; (with_reducible refine (Sg03.right_any (.slice A1 ys.length c1) nb ys _ (H.out.2.since (hS0.trans hK)) (by have := LL.out; omega)).mono ?_); rw [R2.out]; rintro e w2 ⟨rfl, h⟩; have hK := hK.trans h; obtain ⟨B0, B1, B2⟩ := hbx.out _ hK; obtain ⟨k0a, k0b⟩ := B0.two; obtain ⟨k1a, k1b⟩ := B1.two; obtain ⟨r0a, r0b, r0c, r0d⟩ := B2.four; obtain ⟨f0a, f0b, f0c, f0d⟩ := B2.four')
      | (go_at_call 52; (with_reducible refine (zero_any A1 ys.length c1 nb _).mono ?_); rw [Z0.out]; rintro e w3 ⟨rfl, h⟩; have hK := hK.trans h; obtain ⟨B0, B1, B2⟩ := hbx.out _ hK; obtain ⟨k0a, k0b⟩ := B0.two; obtain ⟨k1a, k1b⟩ := B1.two; obtain ⟨r0a, r0b, r0c, r0d⟩ := B2.four; obtain ⟨f0a, f0b, f0c, f0d⟩ := B2.four'))
    have gr := (hbx.out _ hK).2.2
    obtain ⟨r0a, r0b, r0c, r0d⟩ := gr.four
    obtain ⟨f0a, f0b, f0c, f0d⟩ := gr.four'
    refine bodyPost_ret (v := (.tuple #[.agg #[.bool false, .slice none 0 0, .bool false, .slice none 0 0], .int .i64 2])) ?_ rfl ?_
    · simp [results, Tryz.results37, go_sem, r0a, r0b, r0c, r0d]
    · rw [FN.out]; exact ⟨_, _, _, _, rfl, gr.rowsR (Row.nil _) (put4_far _ _ _ _ _ _), gr.rowsR (Row.nil _) (put4_far _ _ _ _ _ _), since_put4 (hS0.trans hK) (by omega) _ _ _ _⟩
  have Z0 := Lib.hid (decide_eq_false h0)
  obtain ⟨gs, p, M⟩ := low_nums H.out.1.dig H.out.2.dig r1 r2 h0
  have M := Lib.hid M
  obtain ⟨n1, s1, n2, s2, er, hr⟩ := parts5 (fitF (Fr.red (sval na xs) (sval nb ys)))
  have FN := Lib.hid (show makeR (na, xs) (nb, ys) = (((n1, s1), (n2, s2)), er) from (if_pos ⟨⟨r1, r2⟩, h0⟩).trans hr)
  have hr := Lib.hid hr
  have Q1 := Lib.hid (right_norm (Ref03.sright_right r1)).1
  have Q2 := Lib.hid (right_norm (Ref03.sright_right r2)).1
  clear r1 r2 h0
  go_enter Tryz.func37, Tryz.ntmps37
  go_wp2_with fail
  rw [← HW.out]
  obtain ⟨B0, B1, B2⟩ := hbx.out _ hK; obtain ⟨k0a, k0b⟩ := B0.two; obtain ⟨k1a, k1b⟩ := B1.two; obtain ⟨r0a, r0b, r0c, r0d⟩ := B2.four; obtain ⟨f0a, f0b, f0c, f0d⟩ := B2.four'
  go_wp2_with (first
    | (go_at_call 65; (with_reducible refine (Sg03.right_any (.slice A0 xs.length c0) na xs _ (H.out.1.since (hS0.trans hK)) (by have := LL.out; omega)).mono ?_); rw [R1.out]; rintro e w1 ⟨rfl, h⟩; have hK := hK.trans h; obtain ⟨B0, B1, B2⟩ := hbx.out _ hK; obtain ⟨k0a, k0b⟩ := B0.two; obtain ⟨k1a, k1b⟩ := B1.two; obtain ⟨r0a, r0b, r0c, r0d⟩ := B2.four; obtain ⟨f0a, f0b, f0c, f0d⟩ := B2.four')
    | (go_at_call 65; (with_reducible refine (Sg03.right_any (.slice A1 ys.length c1) nb ys _ (H.out.2.since (hS0.trans hK)) (by have := LL.out; omega)).mono ?_); rw [R2.out]; rintro e w2 ⟨rfl, h⟩; have hK := hK.trans h; obtain ⟨B0, B1, B2⟩ := hbx.out _ hK; obtain ⟨k0a, k0b⟩ := B0.two; obtain ⟨k1a, k1b⟩ := B1.two; obtain ⟨r0a, r0b, r0c, r0d⟩ := B2.four; obtain ⟨f0a, f0b, f0c, f0d⟩ := B2.four')
    | (go_at_call 52; (with_reducible refine (zero_any A1 ys.length c1 nb _).mono ?_); rw [Z0.out]; rintro e w3 ⟨rfl, h⟩; have hK := hK.trans h; obtain ⟨B0, B1, B2⟩ := hbx.out _ hK; obtain ⟨k0a, k0b⟩ := B0.two; obtain ⟨k1a, k1b⟩ := B1.two; obtain ⟨r0a, r0b, r0c, r0d⟩ := B2.four; obtain ⟨f0a, f0b, f0c, f0d⟩ := B2.four')
    | (go_at_call 43; (with_reducible refine ((lowest_any A0 A1 c0 c1 na nb xs ys _ (H.out.1.since (hS0.trans hK)) (H.out.2.since (hS0.trans hK)) Q1.out Q2.out M.out).mono fun _ _ h => RetF.at hr.out h).mono ?_); rintro e w4 ⟨X, x, Y, y, rfl, rx, ry, h⟩; have hK := hK.trans h; obtain ⟨B0, B1, B2⟩ := hbx.out _ hK; obtain ⟨k0a, k0b⟩ := B0.two; obtain ⟨k1a, k1b⟩ := B1.two; obtain ⟨r0a, r0b, r0c, r0d⟩ := B2.four; obtain ⟨f0a, f0b, f0c, f0d⟩ := B2.four'))
  have gr := (hbx.out _ hK).2.2
  obtain ⟨r0a, r0b, r0c, r0d⟩ := gr.four
  obtain ⟨f0a, f0b, f0c, f0d⟩ := gr.four'
  refine bodyPost_ret (v := (.tuple #[.agg #[.bool n1, .slice X s1.length x, .bool n2, .slice Y s2.length y], .int .i64 er])) ?_ rfl ?_
  · simp [results, Tryz.results37, go_sem, r0a, r0b, r0c, r0d]
  · rw [FN.out]; exact RetF.of rfl ⟨_, _, _, _, rfl, gr.rowsR rx (put4_far _ _ _ _ _ _), gr.rowsR ry (put4_far _ _ _ _ _ _), since_put4 (hS0.trans hK) (by omega) _ _ _ _⟩
end Go.Proofs.YtbbemgeinlehmaaGreatDoor.Sr04

namespace Go.Proofs.YtbbemgeinlehmaaGreatDoor.Sr04
open Go.RowKit
set_option linter.unusedVariables false
open Go.Proofs.YtbbemgeinlehmaaGreatDoor.Dig Go.Proofs.YtbbemgeinlehmaaGreatDoor.R4 Go.Proofs.YtbbemgeinlehmaaGreatDoor.Fr
open Go.Proofs.YtbbemgeinlehmaaGreatDoor.Ref03 (sv srightB gcdZ divZ negZ mulZ addZ cmpZ textZ sval ngB mag RetZ RetQR RetS)
set_option linter.unusedSimpArgs false
open Go.Proofs.YtbbemgeinlehmaaGreatDoor.Ref04

set_option maxRecDepth 100000 in
set_option maxHeartbeats 4000000 in
theorem fl_any (A0 A1 : Option Addr) (c0 c1 : Nat) (na nb : Bool) (xs ys : List Nat) (w : World) (hx : Row w (.slice A0 xs.length c0) xs) (hy : Row w (.slice A1 ys.length c1) ys) (lx : xs.length ≤ 1000) (ly : ys.length ≤ 1000) {q m : Int} (hd : divZ na xs nb ys = ((pz q, pz m), 0)) :
    Calls Tryz.prog 53 #[.agg #[.bool na, .slice A0 xs.length c0, .bool nb, .slice A1 ys.length c1]] w fun e w' => ∃ A c, e = .returned (sv (ngB q) (.slice A (mag q).length c)) ∧ Row w' (.slice A (mag q).length c) (mag q) ∧ Since w w' := by
  have H := Lib.hid (And.intro hx hy)
  have LL := Lib.hid (And.intro lx ly)
  have DD := Lib.hid hd
  obtain ⟨W0, hW0⟩ : ∃ W0, W0 = (w.alloc (.cells #[.bool na, .slice A0 xs.length c0, .bool nb, .slice A1 ys.length c1] 31)).alloc (.cells #[.bool false, .slice none 0 0] 29) := ⟨_, rfl⟩
  have HW := Lib.hid hW0
  have hS0 : Since w W0 := by rw [hW0]; exact ((Since.refl w).alloc _).alloc _
  have hbx : Hid (∀ W : World, Since W0 W → Bx W (w.heap.size) #[.bool na, .slice A0 xs.length c0, .bool nb, .slice A1 ys.length c1] 31 ∧ Bx W (w.heap.size + 1) #[.bool false, .slice none 0 0] 29) := fun W h => ⟨Bx.new ((since_alloc _ _).trans (hW0 ▸ h)) (by simp), Bx.new (hW0 ▸ h) (by simp)⟩
  clear hW0
  have hK := Since.refl W0
  clear hx hy lx ly hd
  go_enter Tryz.func53, Tryz.ntmps53
  go_wp2_with fail
  rw [← HW.out]
  obtain ⟨B0, B1⟩ := hbx.out _ hK; obtain ⟨k0a, k0b, k0c, k0d⟩ := B0.four; obtain ⟨r0a, r0b⟩ := B1.two; obtain ⟨f0a, f0b⟩ := B1.two'
  go_upto_region 2 with (first
    | (go_at_call 73; (with_reducible refine (div_at A0 A1 c0 c1 na nb xs ys _ (H.out.1.since (hS0.trans hK)) (H.out.2.since (hS0.trans hK)) (by have := LL.out; omega) (by have := LL.out; omega) DD.out).mono ?_); rintro e w1 ⟨X, x, Y, y, rfl, rx, ry, h⟩; have hK := hK.trans h))
  have hS := Since.refl W0
  obtain ⟨W1, hW1⟩ : ∃ W1, W1 = (w1.alloc (.cells #[.bool (ngB q), .slice X (mag q).length x] 29)).alloc (.cells #[.bool (ngB m), .slice Y (mag m).length y] 29) := ⟨_, rfl⟩
  rw [← hW1]
  have hx : Since w1 W1 := by rw [hW1]; exact (since_alloc _ _).trans (since_alloc _ _)
  have hg := hK.trans hx
  have qbW1 : w.heap.size + 1 < w1.heap.size := (hbx.out _ (hS.trans hK)).2.lt
  have Vn : Hid (∀ W', Since W1 W' → Bx W' (w1.heap.size) #[.bool (ngB q), .slice X (mag q).length x] 29) := fun W' h => Bx.new ((since_alloc _ _).trans (hW1 ▸ h)) (by simp)
  have rx := rx.since hx
  have hS := hS.trans hg
  clear hW1 hx hg hK
  generalize w1.heap.size = bkW1 at *
  have hK := Since.refl W1
  obtain ⟨B0, gr⟩ := hbx.out _ (hS.trans hK)
  obtain ⟨r0a, r0b⟩ := gr.two
  obtain ⟨f0a, f0b⟩ := gr.two'
  obtain ⟨vna, vnb⟩ := (Vn.out _ hK).two
  go_wp2_with fail
  refine bodyPost_ret (v := .agg #[.bool (ngB q), .slice X (mag q).length x]) ?_ rfl ?_
  · simp [results, Tryz.results53, go_sem, r0a, r0b]
  · exact ⟨_, _, rfl, gr.rowsI rx (put2_far _ _ _ _), since_put2 (hS0.trans (hS.trans hK)) (by omega) _ _⟩
set_option maxRecDepth 100000 in
set_option maxHeartbeats 4000000 in
theorem floor_any (A0 A1 : Option Addr) (c0 c1 : Nat) (na nb : Bool) (xs ys : List Nat) (w : World) (hx : Row w (.slice A0 xs.length c0) xs) (hy : Row w (.slice A1 ys.length c1) ys) (lx : xs.length ≤ 1000) (ly : ys.length ≤ 1000) :
    Calls Tryz.prog 24 #[.agg #[.bool na, .slice A0 xs.length c0, .bool nb, .slice A1 ys.length c1]] w (RetN (floorR ((na, xs), (nb, ys))) w) := by
  have H := Lib.hid (And.intro hx hy)
  have LL := Lib.hid (And.intro lx ly)
  obtain ⟨W0, hW0⟩ : ∃ W0, W0 = (w.alloc (.cells #[.bool na, .slice A0 xs.length c0, .bool nb, .slice A1 ys.length c1] 31)).alloc (.cells #[.bool false, .slice none 0 0] 29) := ⟨_, rfl⟩
  have HW := Lib.hid hW0
  have hS0 : Since w W0 := by rw [hW0]; exact ((Since.refl w).alloc _).alloc _
  have hbx : Hid (∀ W : World, Since W0 W → Bx W (w.heap.size) #[.bool na, .slice A0 xs.length c0, .bool nb, .slice A1 ys.length c1] 31 ∧ Bx W (w.heap.size + 1) #[.bool false, .slice none 0 0] 29) := fun W h => ⟨Bx.new ((since_alloc _ _).trans (hW0 ▸ h)) (by simp), Bx.new (hW0 ▸ h) (by simp)⟩
  clear hW0
  have hK := Since.refl W0
  clear hx hy lx ly
  by_cases rr : rrB ((na, xs), (nb, ys)) = true
  rotate_left
  · have FN := Lib.hid (show floorR ((na, xs), (nb, ys)) = ((false, []), 2) from if_neg rr)
    have RR := Lib.hid (show rrB ((na, xs), (nb, ys)) = false by simpa using rr)
    clear rr
    go_enter Tryz.func24, Tryz.ntmps24
    go_wp2_with fail
    rw [← HW.out]
    obtain ⟨B0, B1⟩ := hbx.out _ hK; obtain ⟨k0a, k0b, k0c, k0d⟩ := B0.four; obtain ⟨r0a, r0b⟩ := B1.two; obtain ⟨f0a, f0b⟩ := B1.two'
    go_wp2_with (first
      | (go_at_call 35; (with_reducible refine (right_any A0 A1 c0 c1 na nb xs ys _ (H.out.1.since (hS0.trans hK)) (H.out.2.since (hS0.trans hK)) (by have := LL.out; omega) (by have := LL.out; omega)).mono ?_); rw [RR.out]; rintro e w1 ⟨rfl, h⟩; have hK := hK.trans h; obtain ⟨B0, B1⟩ := hbx.out _ hK; obtain ⟨k0a, k0b, k0c, k0d⟩ := B0.four; obtain ⟨r0a, r0b⟩ := B1.two; obtain ⟨f0a, f0b⟩ := B1.two'))
    have gr := (hbx.out _ hK).2
    obtain ⟨r0a, r0b⟩ := gr.two
    obtain ⟨f0a, f0b⟩ := gr.two'
    refine bodyPost_ret (v := .tuple #[.agg #[.bool false, .slice none 0 0], .int .i64 2]) ?_ rfl ?_
    · simp [results, Tryz.results24, go_sem, r0a, r0b]
    · rw [FN.out]; exact ⟨_, _, rfl, gr.rowsI (Row.nil _) (put2_far _ _ _ _), since_put2 (hS0.trans hK) (by omega) _ _⟩
  have RR := Lib.hid rr
  have DD := Lib.hid (div_fl rr)
  obtain ⟨q, hq⟩ : ∃ q, q = (sval na xs).fdiv (sval nb ys) := ⟨_, rfl⟩
  obtain ⟨m, hm⟩ : ∃ m, m = (sval na xs).fmod (sval nb ys) := ⟨_, rfl⟩
  rw [← hq, ← hm] at DD
  have FN := Lib.hid (show floorR ((na, xs), (nb, ys)) = (pz q, 0) from hq ▸ if_pos rr)
  clear rr hq hm
  go_enter Tryz.func24, Tryz.ntmps24
  go_wp2_with fail
  rw [← HW.out]
  obtain ⟨B0, B1⟩ := hbx.out _ hK; obtain ⟨k0a, k0b, k0c, k0d⟩ := B0.four; obtain ⟨r0a, r0b⟩ := B1.two; obtain ⟨f0a, f0b⟩ := B1.two'
  go_wp2_with (first
    | (go_at_call 35; (with_reducible refine (right_any A0 A1 c0 c1 na nb xs ys _ (H.out.1.since (hS0.trans hK)) (H.out.2.since (hS0.trans hK)) (by have := LL.out; omega) (by have := LL.out; omega)).mono ?_); rw [RR.out]; rintro e w1 ⟨rfl, h⟩; have hK := hK.trans h; obtain ⟨B0, B1⟩ := hbx.out _ hK; obtain ⟨k0a, k0b, k0c, k0d⟩ := B0.four; obtain ⟨r0a, r0b⟩ := B1.two; obtain ⟨f0a, f0b⟩ := B1.two')
    | (go_at_call 53; (with_reducible refine (fl_any A0 A1 c0 c1 na nb xs ys _ (H.out.1.since (hS0.trans hK)) (H.out.2.since (hS0.trans hK)) (by have := LL.out; omega) (by have := LL.out; omega) DD.out).mono ?_); rintro e w2 ⟨X, x, rfl, rx, h⟩; have hK := hK.trans h; obtain ⟨B0, B1⟩ := hbx.out _ hK; obtain ⟨k0a, k0b, k0c, k0d⟩ := B0.four; obtain ⟨r0a, r0b⟩ := B1.two; obtain ⟨f0a, f0b⟩ := B1.two'))
  have gr := (hbx.out _ hK).2
  obtain ⟨r0a, r0b⟩ := gr.two
  obtain ⟨f0a, f0b⟩ := gr.two'
  refine bodyPost_ret (v := .tuple #[.agg #[.bool (ngB q), .slice X (mag q).length x], .int .i64 0]) ?_ rfl ?_
  · simp [results, Tryz.results24, go_sem, r0a, r0b]
  · rw [FN.out]; exact ⟨_, _, rfl, gr.rowsI rx (put2_far _ _ _ _), since_put2 (hS0.trans hK) (by omega) _ _⟩
end Go.Proofs.YtbbemgeinlehmaaGreatDoor.Sr04

namespace Go.Proofs.YtbbemgeinlehmaaGreatDoor.Sr04
open Go.RowKit
set_option linter.unusedVariables false
open Go.Proofs.YtbbemgeinlehmaaGreatDoor.Dig Go.Proofs.YtbbemgeinlehmaaGreatDoor.R4 Go.Proofs.YtbbemgeinlehmaaGreatDoor.Fr
open Go.Proofs.YtbbemgeinlehmaaGreatDoor.Ref03 (sv srightB gcdZ divZ negZ mulZ addZ cmpZ textZ sval ngB mag RetZ RetQR RetS)
set_option linter.unusedSimpArgs false
open Go.Proofs.YtbbemgeinlehmaaGreatDoor.Ref04

set_option maxRecDepth 100000 in
set_option maxHeartbeats 4000000 in
theorem times_at (A0 A1 : Option Addr) (c0 c1 : Nat) (na nb : Bool) (xs ys : List Nat) (w : World) (hx : Row w (.slice A0 xs.length c0) xs) (hy : Row w (.slice A1 ys.length c1) ys) (lx : xs.length ≤ 1000) (ly : ys.length ≤ 1000) {z : Int} (h : (srightB na xs = true ∧ srightB nb ys = true) ∧ sval na xs * sval nb ys = z) (lz : (mag z).length ≤ 256) :
    Calls Tryz.prog 42 #[sv na (.slice A0 xs.length c0), sv nb (.slice A1 ys.length c1)] w fun e w' => ∃ A c, e = .returned (sv (ngB z) (.slice A (mag z).length c)) ∧ Row w' (.slice A (mag z).length c) (mag z) ∧ Since w w' := by
  have H := Lib.hid (And.intro hx hy)
  have LL := Lib.hid (And.intro lx ly)
  have HH := Lib.hid h
  have LZ := Lib.hid lz
  clear hx hy lx ly h lz
  obtain ⟨W0, hW0⟩ : ∃ W0, W0 = ((w.alloc (.cells #[.bool na, .slice A0 xs.length c0] 29)).alloc (.cells #[.bool nb, .slice A1 ys.length c1] 29)).alloc (.cells #[.bool false, .slice none 0 0] 29) := ⟨_, rfl⟩
  have HW := Lib.hid hW0
  have hS0 : Since w W0 := by rw [hW0]; exact (((Since.refl w).alloc _).alloc _).alloc _
  have hbx : Hid (∀ W : World, Since W0 W → Bx W (w.heap.size) #[.bool na, .slice A0 xs.length c0] 29 ∧ Bx W (w.heap.size + 1) #[.bool nb, .slice A1 ys.length c1] 29 ∧ Bx W (w.heap.size + 1 + 1) #[.bool false, .slice none 0 0] 29) := fun W h => ⟨Bx.new ((since_alloc _ _).trans ((since_alloc _ _).trans (hW0 ▸ h))) (by simp), Bx.new ((since_alloc _ _).trans (hW0 ▸ h)) (by simp), Bx.new (hW0 ▸ h) (by simp)⟩
  clear hW0
  have hK := Since.refl W0
  go_enter Tryz.func42, Tryz.ntmps42
  go_wp2_with fail
  rw [← HW.out]
  obtain ⟨B0, B1, B2⟩ := hbx.out _ hK; obtain ⟨k0a, k0b⟩ := B0.two; obtain ⟨k1a, k1b⟩ := B1.two; obtain ⟨r0a, r0b⟩ := B2.two; obtain ⟨f0a, f0b⟩ := B2.two'
  go_upto_region 2 with (first
    | (go_at_call 72; (with_reducible refine (mul_at A0 A1 c0 c1 na nb xs ys _ (H.out.1.since (hS0.trans hK)) (H.out.2.since (hS0.trans hK)) (by have := LL.out; omega) (by have := LL.out; omega) HH.out LZ.out).mono ?_); rintro e w1 ⟨X, x, rfl, rx, h⟩; have hK := hK.trans h))
  have hS := Since.refl W0
  obtain ⟨W1, hW1⟩ : ∃ W1, W1 = w1.alloc (.cells #[.bool (ngB z), .slice X (mag z).length x] 29) := ⟨_, rfl⟩
  rw [← hW1]
  have hx : Since w1 W1 := by rw [hW1]; exact since_alloc _ _
  have hg := hK.trans hx
  have qbW1 : w.heap.size + 1 + 1 < w1.heap.size := (hbx.out _ (hS.trans hK)).2.2.lt
  have Vp : Hid (∀ W', Since W1 W' → Bx W' (w1.heap.size) #[.bool (ngB z), .slice X (mag z).length x] 29) := fun W' h => Bx.new (hW1 ▸ h) (by simp)
  have rx := rx.since hx
  have hS := hS.trans hg
  clear hW1 hx hg hK
  generalize w1.heap.size = bkW1 at *
  have hK := Since.refl W1
  have gr := (hbx.out _ (hS.trans hK)).2.2
  obtain ⟨r0a, r0b⟩ := gr.two
  obtain ⟨f0a, f0b⟩ := gr.two'
  obtain ⟨vpa, vpb⟩ := (Vp.out _ hK).two
  go_wp2_with fail
  refine bodyPost_ret (v := .agg #[.bool (ngB z), .slice X (mag z).length x]) ?_ rfl ?_
  · simp [results, Tryz.results42, go_sem, r0a, r0b]
  · exact ⟨_, _, rfl, gr.rowsI rx (put2_far _ _ _ _), since_put2 (hS0.trans (hS.trans hK)) (by omega) _ _⟩
end Go.Proofs.YtbbemgeinlehmaaGreatDoor.Sr04
