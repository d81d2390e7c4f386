/- Layer 14 (arith): four numbers: their least, their greatest; the results for the ends of two domains. -/
import Derived.Test.YtalcgjkegohhgaaQc
import Derived.Test.YtalcgjkegohhgaaQb
import Derived.Test.YtalcgjkegohhgaaQk
namespace Go.Proofs.Ytalcgjkegohhgaa.At
open Go.RowKit
set_option linter.unusedVariables false
set_option linter.unusedSimpArgs false
open Go.Proofs.Ytalcgjkegohhgaa.Num Go.Proofs.Ytalcgjkegohhgaa.Dig Go.Proofs.Ytalcgjkegohhgaa.Lx Go.Proofs.Ytalcgjkegohhgaa.Tk Go.Proofs.Ytalcgjkegohhgaa.Ti Go.Proofs.Ytalcgjkegohhgaa.Zs Go.Proofs.Ytalcgjkegohhgaa.Tr Go.Proofs.Ytalcgjkegohhgaa.Sn Go.Proofs.Ytalcgjkegohhgaa.Ln
set_option maxRecDepth 20000 in
set_option maxHeartbeats 2000000 in
theorem min4 {g : Nat} {x0 x1 x2 x3 : Int} {t : TypeId} {w : World} (h : Bx w g #[.int .i64 x0, .int .i64 x1, .int .i64 x2, .int .i64 x3] t) :
    Calls Try.prog 145 #[.slice (some ⟨g, 0, none⟩) 4 4] w (fun e w' => e = .returned (.int .i64 (mn4 x0 x1 x2 x3)) ∧ Since w w' ∧ True) := by
  have HB := Lib.hid h
  unfold mn4
  obtain ⟨P, hP⟩ : ∃ P : Nat → Int → Prop, P = fun k z => (k = 1 ∧ z = x0) ∨ (k = 2 ∧ z = min x0 x1) ∨ (k = 3 ∧ z = min (min x0 x1) x2) ∨ (k = 4 ∧ z = min (min (min x0 x1) x2) x3) := ⟨_, rfl⟩
  have HP := Lib.hid hP
  clear hP
  obtain ⟨q0, q1, q2, q3⟩ := bx4 h
  clear h
  go_enter Try.func145, Try.ntmps145
  go_wp2
  clear q0 q1 q2 q3
  go_loopw [3, 4] (fun s i wr => ∃ (k : Nat) (z : Int), i = .int .i64 (k : Int) ∧ s = .int .i64 z ∧ Hid (P k z) ∧ Hid (Since w wr)) (fun _ i _ => 4 - (intOf i).toNat)
  case atStart => exact ⟨1, _, rfl, rfl, Lib.hid (by rw [HP.out]; exact .inl ⟨rfl, rfl⟩), Lib.hid (Since.refl _)⟩
  case round =>
    obtain ⟨k, z, rfl, rfl, HK, HW⟩ := hrel
    have hk := HK.out
    rw [HP.out] at hk
    rcases hk with ⟨rfl, hz⟩ | ⟨rfl, hz⟩ | ⟨rfl, hz⟩ | ⟨rfl, hz⟩
    all_goals subst z
    · have hq := bx4 (HB.out.since HW.out)
      obtain ⟨q0, q1, q2, q3⟩ := hq
      generalize hp : (x0) = p at *
      have M : ∀ x, min p x1 = x → min x0 x1 = x := fun x hx => by rw [← hx, ← hp]
      have HM := Lib.hid M
      clear M hp
      by_cases c1 : x1 < p
      all_goals
        go_wp2
        go_roundw
        case rel => first | exact ⟨2, x1, rfl, rfl, Lib.hid (by rw [HP.out]; right; left; exact ⟨rfl, by omega⟩), HW⟩ | exact ⟨2, p, rfl, rfl, Lib.hid (by rw [HP.out]; right; left; exact ⟨rfl, by omega⟩), HW⟩
        case measure => simp [intOf]
    · have hq := bx4 (HB.out.since HW.out)
      obtain ⟨q0, q1, q2, q3⟩ := hq
      generalize hp : (min x0 x1) = p at *
      have M : ∀ x, min p x2 = x → min (min x0 x1) x2 = x := fun x hx => by rw [← hx, ← hp]
      have HM := Lib.hid M
      clear M hp
      by_cases c1 : x2 < p
      all_goals
        go_wp2
        go_roundw
        case rel => first | exact ⟨3, x2, rfl, rfl, Lib.hid (by rw [HP.out]; right; right; left; exact ⟨rfl, by omega⟩), HW⟩ | exact ⟨3, p, rfl, rfl, Lib.hid (by rw [HP.out]; right; right; left; exact ⟨rfl, by omega⟩), HW⟩
        case measure => simp [intOf]
    · have hq := bx4 (HB.out.since HW.out)
      obtain ⟨q0, q1, q2, q3⟩ := hq
      generalize hp : (min (min x0 x1) x2) = p at *
      have M : ∀ x, min p x3 = x → min (min (min x0 x1) x2) x3 = x := fun x hx => by rw [← hx, ← hp]
      have HM := Lib.hid M
      clear M hp
      by_cases c1 : x3 < p
      all_goals
        go_wp2
        go_roundw
        case rel => first | exact ⟨4, x3, rfl, rfl, Lib.hid (by rw [HP.out]; right; right; right; exact ⟨rfl, by omega⟩), HW⟩ | exact ⟨4, p, rfl, rfl, Lib.hid (by rw [HP.out]; right; right; right; exact ⟨rfl, by omega⟩), HW⟩
        case measure => simp [intOf]
    · go_wp2
      go_ret
      first | exact ⟨rfl, HW.out⟩ | exact ⟨rfl, HW.out, trivial⟩
set_option maxRecDepth 20000 in
set_option maxHeartbeats 2000000 in
theorem max4 {g : Nat} {x0 x1 x2 x3 : Int} {t : TypeId} {w : World} (h : Bx w g #[.int .i64 x0, .int .i64 x1, .int .i64 x2, .int .i64 x3] t) :
    Calls Try.prog 146 #[.slice (some ⟨g, 0, none⟩) 4 4] w (fun e w' => e = .returned (.int .i64 (mx4 x0 x1 x2 x3)) ∧ Since w w' ∧ True) := by
  have HB := Lib.hid h
  unfold mx4
  obtain ⟨P, hP⟩ : ∃ P : Nat → Int → Prop, P = fun k z => (k = 1 ∧ z = x0) ∨ (k = 2 ∧ z = max x0 x1) ∨ (k = 3 ∧ z = max (max x0 x1) x2) ∨ (k = 4 ∧ z = max (max (max x0 x1) x2) x3) := ⟨_, rfl⟩
  have HP := Lib.hid hP
  clear hP
  obtain ⟨q0, q1, q2, q3⟩ := bx4 h
  clear h
  go_enter Try.func146, Try.ntmps146
  go_wp2
  clear q0 q1 q2 q3
  go_loopw [3, 4] (fun s i wr => ∃ (k : Nat) (z : Int), i = .int .i64 (k : Int) ∧ s = .int .i64 z ∧ Hid (P k z) ∧ Hid (Since w wr)) (fun _ i _ => 4 - (intOf i).toNat)
  case atStart => exact ⟨1, _, rfl, rfl, Lib.hid (by rw [HP.out]; exact .inl ⟨rfl, rfl⟩), Lib.hid (Since.refl _)⟩
  case round =>
    obtain ⟨k, z, rfl, rfl, HK, HW⟩ := hrel
    have hk := HK.out
    rw [HP.out] at hk
    rcases hk with ⟨rfl, hz⟩ | ⟨rfl, hz⟩ | ⟨rfl, hz⟩ | ⟨rfl, hz⟩
    all_goals subst z
    · have hq := bx4 (HB.out.since HW.out)
      obtain ⟨q0, q1, q2, q3⟩ := hq
      generalize hp : (x0) = p at *
      have M : ∀ x, max p x1 = x → max x0 x1 = x := fun x hx => by rw [← hx, ← hp]
      have HM := Lib.hid M
      clear M hp
      by_cases c1 : p < x1
      all_goals
        go_wp2
        go_roundw
        case rel => first | exact ⟨2, x1, rfl, rfl, Lib.hid (by rw [HP.out]; right; left; exact ⟨rfl, by omega⟩), HW⟩ | exact ⟨2, p, rfl, rfl, Lib.hid (by rw [HP.out]; right; left; exact ⟨rfl, by omega⟩), HW⟩
        case measure => simp [intOf]
    · have hq := bx4 (HB.out.since HW.out)
      obtain ⟨q0, q1, q2, q3⟩ := hq
      generalize hp : (max x0 x1) = p at *
      have M : ∀ x, max p x2 = x → max (max x0 x1) x2 = x := fun x hx => by rw [← hx, ← hp]
      have HM := Lib.hid M
      clear M hp
      by_cases c1 : p < x2
      all_goals
        go_wp2
        go_roundw
        case rel => first | exact ⟨3, x2, rfl, rfl, Lib.hid (by rw [HP.out]; right; right; left; exact ⟨rfl, by omega⟩), HW⟩ | exact ⟨3, p, rfl, rfl, Lib.hid (by rw [HP.out]; right; right; left; exact ⟨rfl, by omega⟩), HW⟩
        case measure => simp [intOf]
    · have hq := bx4 (HB.out.since HW.out)
      obtain ⟨q0, q1, q2, q3⟩ := hq
      generalize hp : (max (max x0 x1) x2) = p at *
      have M : ∀ x, max p x3 = x → max (max (max x0 x1) x2) x3 = x := fun x hx => by rw [← hx, ← hp]
      have HM := Lib.hid M
      clear M hp
      by_cases c1 : p < x3
      all_goals
        go_wp2
        go_roundw
        case rel => first | exact ⟨4, x3, rfl, rfl, Lib.hid (by rw [HP.out]; right; right; right; exact ⟨rfl, by omega⟩), HW⟩ | exact ⟨4, p, rfl, rfl, Lib.hid (by rw [HP.out]; right; right; right; exact ⟨rfl, by omega⟩), HW⟩
        case measure => simp [intOf]
    · go_wp2
      go_ret
      first | exact ⟨rfl, HW.out⟩ | exact ⟨rfl, HW.out, trivial⟩
theorem drew_since {w w' : World} (h : Chq.Drew w w') : Since w w' := by
  obtain ⟨n, rfl⟩ := h
  exact (Since.refl w).drewN n
/-- an end is a number of 64 bits -/
theorem bw_fits {x : Int} (h : Bw x) : Num.fits x = true := fits_of (by unfold Bw at h; omega)
theorem ends_bj {g n : Nat} {w0 w : World} {D : Ln.Ds} (h : DM g n w0 w D) {j : Nat} (hj : j < n) : Bw (L (j : Int) D) ∧ Bw (H (j : Int) D) := by
  have := ends_bw h.gd h.at_.len (x := (j : Int)) ⟨by omega, by simpa using hj⟩
  exact ⟨this.1, this.2.1⟩
set_option maxRecDepth 20000 in
set_option maxHeartbeats 4000000 in
theorem four_mul {g n i j : Nat} {w0 w : World} {D : Ln.Ds} (h : DM g n w0 w D) (hi : i < n) (hj : j < n) :
    Calls Try.prog 142 #[.func (.func 143) #[] #[], .pointer (some ⟨g, i, none⟩), .pointer (some ⟨g, j, none⟩)] w (fun e w' => e = .returned (.agg #[.int .i64 ((fun a b : Int => a * b) (L (i : Int) D) (L (j : Int) D)), .int .i64 ((fun a b : Int => a * b) (L (i : Int) D) (H (j : Int) D)), .int .i64 ((fun a b : Int => a * b) (H (i : Int) D) (L (j : Int) D)), .int .i64 ((fun a b : Int => a * b) (H (i : Int) D) (H (j : Int) D))]) ∧ Since w w') := by
  obtain ⟨b1, b2⟩ := ends_bj h hi
  obtain ⟨b3, b4⟩ := ends_bj h hj
  have LA := Lib.hid (fun W (k : Since w W) => lo_d (h.since k) hi)
  have HA := Lib.hid (fun W (k : Since w W) => hi_d (h.since k) hi)
  have LB := Lib.hid (fun W (k : Since w W) => lo_d (h.since k) hj)
  have HB := Lib.hid (fun W (k : Since w W) => hi_d (h.since k) hj)
  have OF := fun x y (hx : Bw x) (hy : Bw y) (W : World) => show Calls Try.prog 143 #[.int .i64 x, .int .i64 y] W (fun e w' => ∃ r, e = .returned (.tuple #[.int .i64 ((fun a b : Int => a * b) x y), .int .i64 r]) ∧ Since W w') from by refine (Chq.mul_any x y (bw_fits hx) (bw_fits hy) W).mono ?_; rintro e w' ⟨rfl, rfl⟩; exact ⟨_, by rw [val_in (fits_of (by have := prod_le hx hy; omega))], Since.refl _⟩
  have O0 := Lib.hid (OF _ _ b1 b3)
  have O1 := Lib.hid (OF _ _ b1 b4)
  have O2 := Lib.hid (OF _ _ b2 b3)
  have O3 := Lib.hid (OF _ _ b2 b4)
  clear OF b1 b2 b3 b4
  generalize hf0 : (fun a b : Int => a * b) (L (i : Int) D) (L (j : Int) D) = f0' at *
  generalize hf1 : (fun a b : Int => a * b) (L (i : Int) D) (H (j : Int) D) = f1' at *
  generalize hf2 : (fun a b : Int => a * b) (H (i : Int) D) (L (j : Int) D) = f2' at *
  generalize hf3 : (fun a b : Int => a * b) (H (i : Int) D) (H (j : Int) D) = f3' at *
  clear hf0 hf1 hf2 hf3
  generalize L (i : Int) D = la at *
  generalize H (i : Int) D = ha at *
  generalize L (j : Int) D = lb at *
  generalize H (j : Int) D = hb at *
  clear h hi hj
  have ka := since_alloc w (.cells #[.int .i64 0, .int .i64 0, .int .i64 0, .int .i64 0] 144)
  have kb := since_alloc (w.alloc (.cells #[.int .i64 0, .int .i64 0, .int .i64 0, .int .i64 0] 144)) (.cells #[.int .i64 0, .int .i64 0, .int .i64 0, .int .i64 0] 144)
  have K := Lib.hid (ka.trans kb)
  have e7 : (w.alloc (.cells #[.int .i64 0, .int .i64 0, .int .i64 0, .int .i64 0] 144)).heap.size = w.heap.size + 1 := by simp
  have B7 := Lib.hid (e7 ▸ Bx.fresh (w.alloc (.cells #[.int .i64 0, .int .i64 0, .int .i64 0, .int .i64 0] 144)) #[.int .i64 0, .int .i64 0, .int .i64 0, .int .i64 0] 144)
  have B6 := Lib.hid ((Bx.fresh w #[.int .i64 0, .int .i64 0, .int .i64 0, .int .i64 0] 144).since kb)
  clear ka kb e7
  go_enter Try.func142, Try.ntmps142
  go_wp2_with (first | (go_at_call 150; (with_reducible refine (LA.out _ K.out).mono ?_); rintro e w2 ⟨rfl, k2⟩; have B7 := Lib.hid (B7.out.since k2); have B6 := Lib.hid (B6.out.since k2); have K := Lib.hid (K.out.trans k2); clear k2) | (go_at_call 151; (with_reducible refine (HA.out _ K.out).mono ?_); rintro e w2 ⟨rfl, k2⟩; have B7 := Lib.hid (B7.out.since k2); have B6 := Lib.hid (B6.out.since k2); have K := Lib.hid (K.out.trans k2); clear k2) | (go_at_call 150; (with_reducible refine (LB.out _ K.out).mono ?_); rintro e w2 ⟨rfl, k2⟩; have B7 := Lib.hid (B7.out.since k2); have B6 := Lib.hid (B6.out.since k2); have K := Lib.hid (K.out.trans k2); clear k2) | (go_at_call 151; (with_reducible refine (HB.out _ K.out).mono ?_); rintro e w2 ⟨rfl, k2⟩; have B7 := Lib.hid (B7.out.since k2); have B6 := Lib.hid (B6.out.since k2); have K := Lib.hid (K.out.trans k2); clear k2) | (go_at_call 143; (with_reducible refine (O0.out _).mono ?_); rintro e w2 ⟨r, rfl, k2⟩; have B8 := B7.out.since k2; obtain ⟨c0, c1, c2, c3⟩ := bx4 B8; obtain ⟨f0, f1, f2, f3⟩ := bx4' B8; have B7 := Lib.hid (bxset B8 0 (.int .i64 f0') (ds := #[.int .i64 f0', .int .i64 0, .int .i64 0, .int .i64 0]) rfl); have B6 := Lib.hid ((B6.out.since k2).other (Nat.ne_of_lt (Nat.lt_succ_self _)) 0 (.int .i64 f0')); have K := Lib.hid ((K.out.trans k2).set (p := ⟨w.heap.size + 1, 0, none⟩) (by simp) (.int .i64 f0')); clear k2 B8) | (go_at_call 143; (with_reducible refine (O1.out _).mono ?_); rintro e w2 ⟨r, rfl, k2⟩; have B8 := B7.out.since k2; obtain ⟨c0, c1, c2, c3⟩ := bx4 B8; obtain ⟨f0, f1, f2, f3⟩ := bx4' B8; have B7 := Lib.hid (bxset B8 1 (.int .i64 f1') (ds := #[.int .i64 f0', .int .i64 f1', .int .i64 0, .int .i64 0]) rfl); have B6 := Lib.hid ((B6.out.since k2).other (Nat.ne_of_lt (Nat.lt_succ_self _)) 1 (.int .i64 f1')); have K := Lib.hid ((K.out.trans k2).set (p := ⟨w.heap.size + 1, 1, none⟩) (by simp) (.int .i64 f1')); clear k2 B8) | (go_at_call 143; (with_reducible refine (O2.out _).mono ?_); rintro e w2 ⟨r, rfl, k2⟩; have B8 := B7.out.since k2; obtain ⟨c0, c1, c2, c3⟩ := bx4 B8; obtain ⟨f0, f1, f2, f3⟩ := bx4' B8; have B7 := Lib.hid (bxset B8 2 (.int .i64 f2') (ds := #[.int .i64 f0', .int .i64 f1', .int .i64 f2', .int .i64 0]) rfl); have B6 := Lib.hid ((B6.out.since k2).other (Nat.ne_of_lt (Nat.lt_succ_self _)) 2 (.int .i64 f2')); have K := Lib.hid ((K.out.trans k2).set (p := ⟨w.heap.size + 1, 2, none⟩) (by simp) (.int .i64 f2')); clear k2 B8) | (go_at_call 143; (with_reducible refine (O3.out _).mono ?_); rintro e w2 ⟨r, rfl, k2⟩; have B8 := B7.out.since k2; obtain ⟨c0, c1, c2, c3⟩ := bx4 B8; obtain ⟨f0, f1, f2, f3⟩ := bx4' B8; have B7 := Lib.hid (bxset B8 3 (.int .i64 f3') (ds := #[.int .i64 f0', .int .i64 f1', .int .i64 f2', .int .i64 f3']) rfl); have B6 := Lib.hid ((B6.out.since k2).other (Nat.ne_of_lt (Nat.lt_succ_self _)) 3 (.int .i64 f3')); have K := Lib.hid ((K.out.trans k2).set (p := ⟨w.heap.size + 1, 3, none⟩) (by simp) (.int .i64 f3')); clear k2 B8; obtain ⟨l0, l1, l2, l3⟩ := bx4 B7.out; have B5 := bxset (bxset (bxset (bxset B6.out 0 (.int .i64 f0') rfl) 1 (.int .i64 f1') rfl) 2 (.int .i64 f2') rfl) 3 (.int .i64 f3') rfl; obtain ⟨m0, m1, m2, m3⟩ := bx4 B6.out; obtain ⟨o0, o1, o2, o3⟩ := bx4' B6.out; have B5 := Lib.hid B5; have KE := Lib.hid ((((K.out.set (p := ⟨w.heap.size, 0, none⟩) (by simp) (.int .i64 f0')).set (p := ⟨w.heap.size, 1, none⟩) (by simp) (.int .i64 f1')).set (p := ⟨w.heap.size, 2, none⟩) (by simp) (.int .i64 f2')).set (p := ⟨w.heap.size, 3, none⟩) (by simp) (.int .i64 f3'))))
  refine bodyPost_ret (results_cell_row (P := Try.prog) rfl _ _ w.heap.size 144 _ _ _ rfl B5.out Try.underlying144 rfl (by kernel_rfl)) rfl ⟨rfl, KE.out⟩
set_option maxRecDepth 20000 in
set_option maxHeartbeats 4000000 in
theorem four_cei {g n i j : Nat} {w0 w : World} {D : Ln.Ds} (h : DM g n w0 w D) (hi : i < n) (hj : j < n) :
    Calls Try.prog 142 #[.func (.func 190) #[] #[], .pointer (some ⟨g, i, none⟩), .pointer (some ⟨g, j, none⟩)] w (fun e w' => e = .returned (.agg #[.int .i64 (cei (L (i : Int) D) (L (j : Int) D)), .int .i64 (cei (L (i : Int) D) (H (j : Int) D)), .int .i64 (cei (H (i : Int) D) (L (j : Int) D)), .int .i64 (cei (H (i : Int) D) (H (j : Int) D))]) ∧ Since w w') := by
  obtain ⟨b1, b2⟩ := ends_bj h hi
  obtain ⟨b3, b4⟩ := ends_bj h hj
  have LA := Lib.hid (fun W (k : Since w W) => lo_d (h.since k) hi)
  have HA := Lib.hid (fun W (k : Since w W) => hi_d (h.since k) hi)
  have LB := Lib.hid (fun W (k : Since w W) => lo_d (h.since k) hj)
  have HB := Lib.hid (fun W (k : Since w W) => hi_d (h.since k) hj)
  have OF := fun x y (hx : Bw x) (hy : Bw y) (W : World) => show Calls Try.prog 190 #[.int .i64 x, .int .i64 y] W (fun e w' => ∃ r, e = .returned (.tuple #[.int .i64 (cei x y), .int .i64 r]) ∧ Since W w') from by refine (Chq.ceil_any x y (bw_fits hx) W).mono ?_; rintro e w' ⟨rfl, hk⟩; exact ⟨_, rfl, drew_since hk⟩
  have O0 := Lib.hid (OF _ _ b1 b3)
  have O1 := Lib.hid (OF _ _ b1 b4)
  have O2 := Lib.hid (OF _ _ b2 b3)
  have O3 := Lib.hid (OF _ _ b2 b4)
  clear OF b1 b2 b3 b4
  generalize hf0 : cei (L (i : Int) D) (L (j : Int) D) = f0' at *
  generalize hf1 : cei (L (i : Int) D) (H (j : Int) D) = f1' at *
  generalize hf2 : cei (H (i : Int) D) (L (j : Int) D) = f2' at *
  generalize hf3 : cei (H (i : Int) D) (H (j : Int) D) = f3' at *
  clear hf0 hf1 hf2 hf3
  generalize L (i : Int) D = la at *
  generalize H (i : Int) D = ha at *
  generalize L (j : Int) D = lb at *
  generalize H (j : Int) D = hb at *
  clear h hi hj
  have ka := since_alloc w (.cells #[.int .i64 0, .int .i64 0, .int .i64 0, .int .i64 0] 144)
  have kb := since_alloc (w.alloc (.cells #[.int .i64 0, .int .i64 0, .int .i64 0, .int .i64 0] 144)) (.cells #[.int .i64 0, .int .i64 0, .int .i64 0, .int .i64 0] 144)
  have K := Lib.hid (ka.trans kb)
  have e7 : (w.alloc (.cells #[.int .i64 0, .int .i64 0, .int .i64 0, .int .i64 0] 144)).heap.size = w.heap.size + 1 := by simp
  have B7 := Lib.hid (e7 ▸ Bx.fresh (w.alloc (.cells #[.int .i64 0, .int .i64 0, .int .i64 0, .int .i64 0] 144)) #[.int .i64 0, .int .i64 0, .int .i64 0, .int .i64 0] 144)
  have B6 := Lib.hid ((Bx.fresh w #[.int .i64 0, .int .i64 0, .int .i64 0, .int .i64 0] 144).since kb)
  clear ka kb e7
  go_enter Try.func142, Try.ntmps142
  go_wp2_with (first | (go_at_call 150; (with_reducible refine (LA.out _ K.out).mono ?_); rintro e w2 ⟨rfl, k2⟩; have B7 := Lib.hid (B7.out.since k2); have B6 := Lib.hid (B6.out.since k2); have K := Lib.hid (K.out.trans k2); clear k2) | (go_at_call 151; (with_reducible refine (HA.out _ K.out).mono ?_); rintro e w2 ⟨rfl, k2⟩; have B7 := Lib.hid (B7.out.since k2); have B6 := Lib.hid (B6.out.since k2); have K := Lib.hid (K.out.trans k2); clear k2) | (go_at_call 150; (with_reducible refine (LB.out _ K.out).mono ?_); rintro e w2 ⟨rfl, k2⟩; have B7 := Lib.hid (B7.out.since k2); have B6 := Lib.hid (B6.out.since k2); have K := Lib.hid (K.out.trans k2); clear k2) | (go_at_call 151; (with_reducible refine (HB.out _ K.out).mono ?_); rintro e w2 ⟨rfl, k2⟩; have B7 := Lib.hid (B7.out.since k2); have B6 := Lib.hid (B6.out.since k2); have K := Lib.hid (K.out.trans k2); clear k2) | (go_at_call 190; (with_reducible refine (O0.out _).mono ?_); rintro e w2 ⟨r, rfl, k2⟩; have B8 := B7.out.since k2; obtain ⟨c0, c1, c2, c3⟩ := bx4 B8; obtain ⟨f0, f1, f2, f3⟩ := bx4' B8; have B7 := Lib.hid (bxset B8 0 (.int .i64 f0') (ds := #[.int .i64 f0', .int .i64 0, .int .i64 0, .int .i64 0]) rfl); have B6 := Lib.hid ((B6.out.since k2).other (Nat.ne_of_lt (Nat.lt_succ_self _)) 0 (.int .i64 f0')); have K := Lib.hid ((K.out.trans k2).set (p := ⟨w.heap.size + 1, 0, none⟩) (by simp) (.int .i64 f0')); clear k2 B8) | (go_at_call 190; (with_reducible refine (O1.out _).mono ?_); rintro e w2 ⟨r, rfl, k2⟩; have B8 := B7.out.since k2; obtain ⟨c0, c1, c2, c3⟩ := bx4 B8; obtain ⟨f0, f1, f2, f3⟩ := bx4' B8; have B7 := Lib.hid (bxset B8 1 (.int .i64 f1') (ds := #[.int .i64 f0', .int .i64 f1', .int .i64 0, .int .i64 0]) rfl); have B6 := Lib.hid ((B6.out.since k2).other (Nat.ne_of_lt (Nat.lt_succ_self _)) 1 (.int .i64 f1')); have K := Lib.hid ((K.out.trans k2).set (p := ⟨w.heap.size + 1, 1, none⟩) (by simp) (.int .i64 f1')); clear k2 B8) | (go_at_call 190; (with_reducible refine (O2.out _).mono ?_); rintro e w2 ⟨r, rfl, k2⟩; have B8 := B7.out.since k2; obtain ⟨c0, c1, c2, c3⟩ := bx4 B8; obtain ⟨f0, f1, f2, f3⟩ := bx4' B8; have B7 := Lib.hid (bxset B8 2 (.int .i64 f2') (ds := #[.int .i64 f0', .int .i64 f1', .int .i64 f2', .int .i64 0]) rfl); have B6 := Lib.hid ((B6.out.since k2).other (Nat.ne_of_lt (Nat.lt_succ_self _)) 2 (.int .i64 f2')); have K := Lib.hid ((K.out.trans k2).set (p := ⟨w.heap.size + 1, 2, none⟩) (by simp) (.int .i64 f2')); clear k2 B8) | (go_at_call 190; (with_reducible refine (O3.out _).mono ?_); rintro e w2 ⟨r, rfl, k2⟩; have B8 := B7.out.since k2; obtain ⟨c0, c1, c2, c3⟩ := bx4 B8; obtain ⟨f0, f1, f2, f3⟩ := bx4' B8; have B7 := Lib.hid (bxset B8 3 (.int .i64 f3') (ds := #[.int .i64 f0', .int .i64 f1', .int .i64 f2', .int .i64 f3']) rfl); have B6 := Lib.hid ((B6.out.since k2).other (Nat.ne_of_lt (Nat.lt_succ_self _)) 3 (.int .i64 f3')); have K := Lib.hid ((K.out.trans k2).set (p := ⟨w.heap.size + 1, 3, none⟩) (by simp) (.int .i64 f3')); clear k2 B8; obtain ⟨l0, l1, l2, l3⟩ := bx4 B7.out; have B5 := bxset (bxset (bxset (bxset B6.out 0 (.int .i64 f0') rfl) 1 (.int .i64 f1') rfl) 2 (.int .i64 f2') rfl) 3 (.int .i64 f3') rfl; obtain ⟨m0, m1, m2, m3⟩ := bx4 B6.out; obtain ⟨o0, o1, o2, o3⟩ := bx4' B6.out; have B5 := Lib.hid B5; have KE := Lib.hid ((((K.out.set (p := ⟨w.heap.size, 0, none⟩) (by simp) (.int .i64 f0')).set (p := ⟨w.heap.size, 1, none⟩) (by simp) (.int .i64 f1')).set (p := ⟨w.heap.size, 2, none⟩) (by simp) (.int .i64 f2')).set (p := ⟨w.heap.size, 3, none⟩) (by simp) (.int .i64 f3'))))
  refine bodyPost_ret (results_cell_row (P := Try.prog) rfl _ _ w.heap.size 144 _ _ _ rfl B5.out Try.underlying144 rfl (by kernel_rfl)) rfl ⟨rfl, KE.out⟩
set_option maxRecDepth 20000 in
set_option maxHeartbeats 4000000 in
theorem four_flo {g n i j : Nat} {w0 w : World} {D : Ln.Ds} (h : DM g n w0 w D) (hi : i < n) (hj : j < n) :
    Calls Try.prog 142 #[.func (.func 191) #[] #[], .pointer (some ⟨g, i, none⟩), .pointer (some ⟨g, j, none⟩)] w (fun e w' => e = .returned (.agg #[.int .i64 (flo (L (i : Int) D) (L (j : Int) D)), .int .i64 (flo (L (i : Int) D) (H (j : Int) D)), .int .i64 (flo (H (i : Int) D) (L (j : Int) D)), .int .i64 (flo (H (i : Int) D) (H (j : Int) D))]) ∧ Since w w') := by
  obtain ⟨b1, b2⟩ := ends_bj h hi
  obtain ⟨b3, b4⟩ := ends_bj h hj
  have LA := Lib.hid (fun W (k : Since w W) => lo_d (h.since k) hi)
  have HA := Lib.hid (fun W (k : Since w W) => hi_d (h.since k) hi)
  have LB := Lib.hid (fun W (k : Since w W) => lo_d (h.since k) hj)
  have HB := Lib.hid (fun W (k : Since w W) => hi_d (h.since k) hj)
  have OF := fun x y (hx : Bw x) (hy : Bw y) (W : World) => show Calls Try.prog 191 #[.int .i64 x, .int .i64 y] W (fun e w' => ∃ r, e = .returned (.tuple #[.int .i64 (flo x y), .int .i64 r]) ∧ Since W w') from by refine (Chq.floor_any x y (bw_fits hx) W).mono ?_; rintro e w' ⟨rfl, hk⟩; exact ⟨_, rfl, drew_since hk⟩
  have O0 := Lib.hid (OF _ _ b1 b3)
  have O1 := Lib.hid (OF _ _ b1 b4)
  have O2 := Lib.hid (OF _ _ b2 b3)
  have O3 := Lib.hid (OF _ _ b2 b4)
  clear OF b1 b2 b3 b4
  generalize hf0 : flo (L (i : Int) D) (L (j : Int) D) = f0' at *
  generalize hf1 : flo (L (i : Int) D) (H (j : Int) D) = f1' at *
  generalize hf2 : flo (H (i : Int) D) (L (j : Int) D) = f2' at *
  generalize hf3 : flo (H (i : Int) D) (H (j : Int) D) = f3' at *
  clear hf0 hf1 hf2 hf3
  generalize L (i : Int) D = la at *
  generalize H (i : Int) D = ha at *
  generalize L (j : Int) D = lb at *
  generalize H (j : Int) D = hb at *
  clear h hi hj
  have ka := since_alloc w (.cells #[.int .i64 0, .int .i64 0, .int .i64 0, .int .i64 0] 144)
  have kb := since_alloc (w.alloc (.cells #[.int .i64 0, .int .i64 0, .int .i64 0, .int .i64 0] 144)) (.cells #[.int .i64 0, .int .i64 0, .int .i64 0, .int .i64 0] 144)
  have K := Lib.hid (ka.trans kb)
  have e7 : (w.alloc (.cells #[.int .i64 0, .int .i64 0, .int .i64 0, .int .i64 0] 144)).heap.size = w.heap.size + 1 := by simp
  have B7 := Lib.hid (e7 ▸ Bx.fresh (w.alloc (.cells #[.int .i64 0, .int .i64 0, .int .i64 0, .int .i64 0] 144)) #[.int .i64 0, .int .i64 0, .int .i64 0, .int .i64 0] 144)
  have B6 := Lib.hid ((Bx.fresh w #[.int .i64 0, .int .i64 0, .int .i64 0, .int .i64 0] 144).since kb)
  clear ka kb e7
  go_enter Try.func142, Try.ntmps142
  go_wp2_with (first | (go_at_call 150; (with_reducible refine (LA.out _ K.out).mono ?_); rintro e w2 ⟨rfl, k2⟩; have B7 := Lib.hid (B7.out.since k2); have B6 := Lib.hid (B6.out.since k2); have K := Lib.hid (K.out.trans k2); clear k2) | (go_at_call 151; (with_reducible refine (HA.out _ K.out).mono ?_); rintro e w2 ⟨rfl, k2⟩; have B7 := Lib.hid (B7.out.since k2); have B6 := Lib.hid (B6.out.since k2); have K := Lib.hid (K.out.trans k2); clear k2) | (go_at_call 150; (with_reducible refine (LB.out _ K.out).mono ?_); rintro e w2 ⟨rfl, k2⟩; have B7 := Lib.hid (B7.out.since k2); have B6 := Lib.hid (B6.out.since k2); have K := Lib.hid (K.out.trans k2); clear k2) | (go_at_call 151; (with_reducible refine (HB.out _ K.out).mono ?_); rintro e w2 ⟨rfl, k2⟩; have B7 := Lib.hid (B7.out.since k2); have B6 := Lib.hid (B6.out.since k2); have K := Lib.hid (K.out.trans k2); clear k2) | (go_at_call 191; (with_reducible refine (O0.out _).mono ?_); rintro e w2 ⟨r, rfl, k2⟩; have B8 := B7.out.since k2; obtain ⟨c0, c1, c2, c3⟩ := bx4 B8; obtain ⟨f0, f1, f2, f3⟩ := bx4' B8; have B7 := Lib.hid (bxset B8 0 (.int .i64 f0') (ds := #[.int .i64 f0', .int .i64 0, .int .i64 0, .int .i64 0]) rfl); have B6 := Lib.hid ((B6.out.since k2).other (Nat.ne_of_lt (Nat.lt_succ_self _)) 0 (.int .i64 f0')); have K := Lib.hid ((K.out.trans k2).set (p := ⟨w.heap.size + 1, 0, none⟩) (by simp) (.int .i64 f0')); clear k2 B8) | (go_at_call 191; (with_reducible refine (O1.out _).mono ?_); rintro e w2 ⟨r, rfl, k2⟩; have B8 := B7.out.since k2; obtain ⟨c0, c1, c2, c3⟩ := bx4 B8; obtain ⟨f0, f1, f2, f3⟩ := bx4' B8; have B7 := Lib.hid (bxset B8 1 (.int .i64 f1') (ds := #[.int .i64 f0', .int .i64 f1', .int .i64 0, .int .i64 0]) rfl); have B6 := Lib.hid ((B6.out.since k2).other (Nat.ne_of_lt (Nat.lt_succ_self _)) 1 (.int .i64 f1')); have K := Lib.hid ((K.out.trans k2).set (p := ⟨w.heap.size + 1, 1, none⟩) (by simp) (.int .i64 f1')); clear k2 B8) | (go_at_call 191; (with_reducible refine (O2.out _).mono ?_); rintro e w2 ⟨r, rfl, k2⟩; have B8 := B7.out.since k2; obtain ⟨c0, c1, c2, c3⟩ := bx4 B8; obtain ⟨f0, f1, f2, f3⟩ := bx4' B8; have B7 := Lib.hid (bxset B8 2 (.int .i64 f2') (ds := #[.int .i64 f0', .int .i64 f1', .int .i64 f2', .int .i64 0]) rfl); have B6 := Lib.hid ((B6.out.since k2).other (Nat.ne_of_lt (Nat.lt_succ_self _)) 2 (.int .i64 f2')); have K := Lib.hid ((K.out.trans k2).set (p := ⟨w.heap.size + 1, 2, none⟩) (by simp) (.int .i64 f2')); clear k2 B8) | (go_at_call 191; (with_reducible refine (O3.out _).mono ?_); rintro e w2 ⟨r, rfl, k2⟩; have B8 := B7.out.since k2; obtain ⟨c0, c1, c2, c3⟩ := bx4 B8; obtain ⟨f0, f1, f2, f3⟩ := bx4' B8; have B7 := Lib.hid (bxset B8 3 (.int .i64 f3') (ds := #[.int .i64 f0', .int .i64 f1', .int .i64 f2', .int .i64 f3']) rfl); have B6 := Lib.hid ((B6.out.since k2).other (Nat.ne_of_lt (Nat.lt_succ_self _)) 3 (.int .i64 f3')); have K := Lib.hid ((K.out.trans k2).set (p := ⟨w.heap.size + 1, 3, none⟩) (by simp) (.int .i64 f3')); clear k2 B8; obtain ⟨l0, l1, l2, l3⟩ := bx4 B7.out; have B5 := bxset (bxset (bxset (bxset B6.out 0 (.int .i64 f0') rfl) 1 (.int .i64 f1') rfl) 2 (.int .i64 f2') rfl) 3 (.int .i64 f3') rfl; obtain ⟨m0, m1, m2, m3⟩ := bx4 B6.out; obtain ⟨o0, o1, o2, o3⟩ := bx4' B6.out; have B5 := Lib.hid B5; have KE := Lib.hid ((((K.out.set (p := ⟨w.heap.size, 0, none⟩) (by simp) (.int .i64 f0')).set (p := ⟨w.heap.size, 1, none⟩) (by simp) (.int .i64 f1')).set (p := ⟨w.heap.size, 2, none⟩) (by simp) (.int .i64 f2')).set (p := ⟨w.heap.size, 3, none⟩) (by simp) (.int .i64 f3'))))
  refine bodyPost_ret (results_cell_row (P := Try.prog) rfl _ _ w.heap.size 144 _ _ _ rfl B5.out Try.underlying144 rfl (by kernel_rfl)) rfl ⟨rfl, KE.out⟩
end Go.Proofs.Ytalcgjkegohhgaa.At
