/- What stays of a variable and of digits while a region runs; how many digits quotients and common divisors have. No code is spoken of. A quotient times the divisor, and what is left, is the number: in layer 3's words. No code is spoken of. Sums and products of numbers of at most 30 digits: they all fit, and hang on no order. Fractions of integers in lowest terms: sums, products, quotients, their laws and order, and what is rounded. No code is spoken of. Layer 4's words: fractions of numbers of a sign and digits, what the document says of them. No code is spoken of. The laws of fractions of at most 8 digits: all fits, and hangs on no order; order and rounding. No code is spoken of. Fractions rounded, and whole numbers as fractions. No code is spoken of. A fraction brought to lowest terms, in layer 3's words: the common divisor, both quotients, their opposites. No code is spoken of. Variables in blocks of their own: what a block of cells holds stays while the world grows, and behind a store elsewhere. No code is spoken of. What layer 4's calls end with. No code is spoken of. How many digits what the document says of layer 4 has. No code is spoken of. -/
import Derived.Test.YtbbemgeinlehmaaGreatDoorWd
import Derived.Deep.RegionHeld3
namespace Go.Proofs.YtbbemgeinlehmaaGreatDoor.Law03
open Go.RowKit
set_option linter.unusedVariables false
open Go.Proofs.YtbbemgeinlehmaaGreatDoor.Dig
open Go.Proofs.YtbbemgeinlehmaaGreatDoor.Ref03 (sv)

/-- a variable of two cells, not yet set -/
def Zero (W : World) (b : Nat) : Prop := W.cell? ⟨b, 0, none⟩ = some (.bool false) ∧ W.cell? ⟨b, 1, none⟩ = some (.slice none 0 0) ∧ W.frozen? ⟨b, 0, none⟩ = false ∧ W.frozen? ⟨b, 1, none⟩ = false
theorem Zero.since {W W' : World} {b : Nat} (h : Zero W b) (k : Since W W') : Zero W' b := by
  obtain ⟨h0, h1, f0, f1⟩ := h
  have hb := World.block_lt_of_cell? _ _ h0
  refine ⟨(k.cell _ hb).trans h0, (k.cell ⟨b, 1, none⟩ hb).trans h1, ?_, ?_⟩
  · rw [Below.frozen k (by exact hb)]; exact f0
  · rw [Below.frozen k (by exact hb)]; exact f1
/-- a variable that was laid ahead of a call, and not yet set, is as it was behind it -/
theorem zero_then {G : Prop} {X x : World} (h : Since X x) (b : Nat) (h0 : X.cell? ⟨b, 0, none⟩ = some (.bool false)) (h1 : X.cell? ⟨b, 1, none⟩ = some (.slice none 0 0))
    (f0 : X.frozen? ⟨b, 0, none⟩ = false) (f1 : X.frozen? ⟨b, 1, none⟩ = false)
    (k : x.cell? ⟨b, 0, none⟩ = some (.bool false) → x.cell? ⟨b, 1, none⟩ = some (.slice none 0 0) → x.frozen? ⟨b, 0, none⟩ = false → x.frozen? ⟨b, 1, none⟩ = false →
      (∀ o, (x.alloc o).cell? ⟨b, 0, none⟩ = some (.bool false)) → (∀ o, (x.alloc o).cell? ⟨b, 1, none⟩ = some (.slice none 0 0)) → (∀ o, (x.alloc o).frozen? ⟨b, 0, none⟩ = false) → (∀ o, (x.alloc o).frozen? ⟨b, 1, none⟩ = false) →
      (∀ o p, ((x.alloc o).alloc p).cell? ⟨b, 0, none⟩ = some (.bool false)) → (∀ o p, ((x.alloc o).alloc p).cell? ⟨b, 1, none⟩ = some (.slice none 0 0)) → (∀ o p, ((x.alloc o).alloc p).frozen? ⟨b, 0, none⟩ = false) → (∀ o p, ((x.alloc o).alloc p).frozen? ⟨b, 1, none⟩ = false) →
      b ≠ x.heap.size → x.heap.size ≠ b → b ≠ x.heap.size + 1 → x.heap.size + 1 ≠ b → G) : G := by
  have hb := World.block_lt_of_cell? _ _ h0
  have hz : Zero X b := ⟨h0, h1, f0, f1⟩
  have z0 := hz.since h
  have z1 := fun o => z0.since (since_alloc x o)
  have z2 := fun o p => (z1 o).since (since_alloc (x.alloc o) p)
  have hb2 : b < x.heap.size := Nat.lt_of_lt_of_le hb h.size
  exact k z0.1 z0.2.1 z0.2.2.1 z0.2.2.2 (fun o => (z1 o).1) (fun o => (z1 o).2.1) (fun o => (z1 o).2.2.1) (fun o => (z1 o).2.2.2)
    (fun o p => (z2 o p).1) (fun o p => (z2 o p).2.1) (fun o p => (z2 o p).2.2.1) (fun o p => (z2 o p).2.2.2) (by omega) (by omega) (by omega) (by omega)
theorem row_put {w : World} {p : Addr} {z u : Value} {v : Value} {ds : List Nat} (h : Row w v ds) (hz : w.cell? p = some z) (hn : ∀ n, z ≠ .int .u32 n) : Row (w.setCell p u) v ds := by
  obtain ⟨h1, A, c, h2, h3, h6⟩ := h
  refine ⟨h1, A, c, h2, fun hl => ?_, h6⟩
  obtain ⟨g, o, h4, h5⟩ := h3 hl
  refine ⟨g, o, h4, fun i hi => ?_⟩
  have hc := h5 i hi
  have hne : (⟨g, o + i, none⟩ : Addr) ≠ p := by
    rintro rfl
    rw [hz] at hc
    injection hc with hc
    exact hn _ hc
  rw [World.cell?_setCell_other (h := hne.symm)]
  exact hc
theorem row_put0 {w : World} {p : Addr} {u : Value} {v : Value} {ds : List Nat} (h : Row w v ds) (hz : w.cell? p = some (.bool false)) : Row (w.setCell p u) v ds := row_put h hz (fun n h => by cases h)
theorem row_put1 {w : World} {p : Addr} {u : Value} {v : Value} {ds : List Nat} (h : Row w v ds) (hz : w.cell? p = some (.slice none 0 0)) : Row (w.setCell p u) v ds := row_put h hz (fun n h => by cases h)
/-- a cell that is there stays -/
theorem stays {X : World} {b o : Nat} {z : Value} (h : X.cell? ⟨b, o, none⟩ = some z) {W : World} (k : Since X W) : W.cell? ⟨b, o, none⟩ = some z := (k.cell _ (World.block_lt_of_cell? _ _ h)).trans h
end Go.Proofs.YtbbemgeinlehmaaGreatDoor.Law03
namespace Go.Proofs.YtbbemgeinlehmaaGreatDoor.Ref03
open Go.RowKit
open Go.Proofs.YtbbemgeinlehmaaGreatDoor.Dig
theorem div_abs {a b : Bool} {X Y : Nat} (hY : 0 < Y) : ((sgn a X).fdiv (sgn b Y)).natAbs ≤ X + Y ∧ ((sgn a X).fmod (sgn b Y)).natAbs ≤ X + Y := by
  have h1 := Nat.div_le_self X Y
  have h2 := Nat.mod_lt X hY
  cases hs : (a == b)
  · by_cases hr : X % Y = 0
    · obtain ⟨e1, e2⟩ := floor_diff0 (a := a) (b := b) (X := X) hY hs hr
      rw [e1, e2]; generalize X / Y = q at *; omega
    · obtain ⟨e1, e2⟩ := floor_diff1 (a := a) (b := b) (X := X) hY hs hr
      rw [e1, e2]; generalize X / Y = q at *; generalize X % Y = r at *; unfold sgn; split <;> omega
  · have hab : a = b := by simpa using hs
    subst hab
    obtain ⟨e1, e2⟩ := floor_same (b := a) (X := X) hY
    rw [e1, e2]; generalize X / Y = q at *; generalize X % Y = r at *; unfold sgn; split <;> omega
theorem divZ_len (na : Bool) (xs : List Nat) (nb : Bool) (ys : List Nat) (dx : IsDig xs) (dy : IsDig ys) (lx : xs.length ≤ 1000) (ly : ys.length ≤ 1000) : (divZ na xs nb ys).1.1.2.length ≤ 1001 ∧ (divZ na xs nb ys).1.2.2.length ≤ 1001 := by
  unfold divZ
  split
  · rename_i hg
    have hY := num_pos (right_norm (sright_right hg.1.2)).2 hg.2
    obtain ⟨k, hk⟩ : ∃ k, k = 1000 := ⟨_, rfl⟩
    rw [← hk] at lx ly
    have h1 := Nat.lt_of_lt_of_le (num_lt dx) (Nat.pow_le_pow_right (n := 4294967296) (by omega) lx)
    have h2 := Nat.lt_of_lt_of_le (num_lt dy) (Nat.pow_le_pow_right (n := 4294967296) (by omega) ly)
    obtain ⟨h3, h4⟩ := div_abs (a := na) (b := nb) (X := num xs) hY
    exact ⟨Nat.le_trans (digs_len_le (k := k + 1) (Nat.lt_of_le_of_lt h3 (sum_lt h1 h2))) (by omega), Nat.le_trans (digs_len_le (k := k + 1) (Nat.lt_of_le_of_lt h4 (sum_lt h1 h2))) (by omega)⟩
  · exact ⟨Nat.zero_le _, Nat.zero_le _⟩
theorem gcdZ_len (na : Bool) (xs : List Nat) (nb : Bool) (ys : List Nat) (dx : IsDig xs) (dy : IsDig ys) (lx : xs.length ≤ 1000) (ly : ys.length ≤ 1000) : (gcdZ na xs nb ys).1.2.length ≤ 1000 := by
  unfold gcdZ
  split
  · show (digs (Nat.gcd (num xs) (num ys))).length ≤ 1000
    by_cases h0 : num xs = 0
    · rw [h0, Nat.gcd_zero_left]; exact Nat.le_trans (digs_len_num dy) ly
    · exact Nat.le_trans (digs_len_mono (Nat.gcd_le_left _ (by omega))) (Nat.le_trans (digs_len_num dx) lx)
  · exact Nat.zero_le _
end Go.Proofs.YtbbemgeinlehmaaGreatDoor.Ref03
namespace Go.Proofs.YtbbemgeinlehmaaGreatDoor.Law03
open Go.RowKit
theorem Zero.lt {W : World} {b : Nat} (h : Zero W b) : b < W.heap.size := World.block_lt_of_cell? _ _ h.1
theorem Zero.fresh (w : World) (t : TypeId) : Zero (w.alloc (.cells #[.bool false, .slice none 0 0] t)) w.heap.size := by
  obtain ⟨h0, h1, h2, h3⟩ := keep2 (Since.refl (w.alloc (.cells #[.bool false, .slice none 0 0] t)))
  exact ⟨h0, h1, h2, h3⟩
end Go.Proofs.YtbbemgeinlehmaaGreatDoor.Law03

namespace Go.Proofs.YtbbemgeinlehmaaGreatDoor.Bk
open Go.RowKit
set_option linter.unusedVariables false
open Go.Proofs.YtbbemgeinlehmaaGreatDoor.Dig
open Go.Proofs.YtbbemgeinlehmaaGreatDoor.Ref03

theorem sval_mag (n : Int) : sval (ngB n) (mag n) = n := by
  unfold sval ngB mag
  rw [num_digs]
  by_cases h : n < 0 <;> simp [h] <;> omega
theorem right_mag {n : Int} (h : (mag n).length ≤ 256) : srightB (ngB n) (mag n) = true := by
  unfold srightB
  rw [right_of h (norm_digs _)]
  by_cases h0 : n = 0
  · subst h0; rfl
  · have e := mag_len n
    have : (mag n).length ≠ 0 := by
      intro hz; rw [hz] at e; simp [h0] at e
    simp [this]
theorem of_right {na : Bool} {xs : List Nat} (dx : IsDig xs) (r : srightB na xs = true) : ngB (sval na xs) = na ∧ mag (sval na xs) = xs := by
  have e2 : sval na xs = sgn na (num xs) := rfl
  have e := ng_sgn na (num xs)
  rw [digs_num dx (right_norm (sright_right r)).2] at e
  rw [e2, ← e.1, ← e.2]
  refine ⟨?_, rfl⟩
  cases na
  · rfl
  · have := sright_pos r
    have hl : 0 < xs.length := by
      cases xs with
      | nil => simp [num] at this
      | cons a t => simp
    simp [signB, hl]
theorem fmod_form {a b : Bool} {X Y : Nat} (hY : 0 < Y) : ∃ R, R < Y ∧ (sgn a X).fmod (sgn b Y) = sgn b R := by
  have h2 := Nat.mod_lt X hY
  cases hs : (a == b)
  · by_cases hr : X % Y = 0
    · exact ⟨0, hY, by rw [(floor_diff0 (a := a) (b := b) (X := X) hY hs hr).2]; cases b <;> rfl⟩
    · exact ⟨Y - X % Y, by omega, (floor_diff1 (a := a) (b := b) (X := X) hY hs hr).2⟩
  · have hab : a = b := by simpa using hs
    subst hab
    exact ⟨X % Y, h2, (floor_same (b := a) (X := X) hY).2⟩
theorem len_of {n : Nat} {X Y k : Nat} (hx : X < 4294967296 ^ k) (hy : Y < 4294967296 ^ k) (h : n ≤ X + Y) : (digs n).length ≤ k + 1 :=
  digs_len_le (Nat.lt_of_le_of_lt h (sum_lt hx hy))
theorem back_div {na nb : Bool} {xs ys : List Nat} (dx : IsDig xs) (dy : IsDig ys) (r1 : srightB na xs = true) (r2 : srightB nb ys = true) (h0 : ys.length ≠ 0) (lx : xs.length ≤ 30) (ly : ys.length ≤ 30) :
    ∃ n1 s1 n2 s2 n3 s3, divZ na xs nb ys = (((n1, s1), (n2, s2)), 0) ∧ mulZ n1 s1 nb ys = ((n3, s3), 0) ∧ addZ n3 s3 n2 s2 = ((na, xs), 0) ∧ cmpZ false s2 false ys = (-1, 0) ∧ (s2.length ≠ 0 → n2 = nb) ∧ s1.length ≤ 31 ∧ s2.length ≤ 31 ∧ s3.length ≤ 31 := by
  have hY := num_pos (right_norm (sright_right r2)).2 h0
  obtain ⟨k, hk⟩ : ∃ k, k = 30 := ⟨_, rfl⟩
  rw [← hk] at lx ly
  have hx := Nat.lt_of_lt_of_le (num_lt dx) (Nat.pow_le_pow_right (n := 4294967296) (by omega) lx)
  have hy := Nat.lt_of_lt_of_le (num_lt dy) (Nat.pow_le_pow_right (n := 4294967296) (by omega) ly)
  obtain ⟨b1, b2⟩ := div_abs (a := na) (b := nb) (X := num xs) hY
  obtain ⟨R, hR, eR⟩ := fmod_form (a := na) (b := nb) (X := num xs) hY
  have hsum : sgn nb (num ys) * (sgn na (num xs)).fdiv (sgn nb (num ys)) + (sgn na (num xs)).fmod (sgn nb (num ys)) = sgn na (num xs) := by rw [Int.fmod_def]; omega
  obtain ⟨q, hq⟩ : ∃ q, q = (sgn na (num xs)).fdiv (sgn nb (num ys)) := ⟨_, rfl⟩
  obtain ⟨r, hr⟩ : ∃ r, r = (sgn na (num xs)).fmod (sgn nb (num ys)) := ⟨_, rfl⟩
  rw [← hq] at b1 hsum
  rw [← hr] at b2 hsum eR
  have habs : (q * sgn nb (num ys)).natAbs ≤ num xs + num ys := by
    have e : q * sgn nb (num ys) = sgn na (num xs) - sgn nb R := by rw [← eR, Int.mul_comm]; omega
    rw [e]; unfold sgn; split <;> split <;> omega
  have l1 : (mag q).length ≤ k + 1 := len_of hx hy b1
  have l2 : (mag r).length ≤ k + 1 := len_of hx hy b2
  have l3 : (mag (q * sgn nb (num ys))).length ≤ k + 1 := len_of hx hy habs
  have e2 := ng_sgn nb R
  rw [← eR] at e2
  refine ⟨ngB q, mag q, ngB r, mag r, ngB (q * sgn nb (num ys)), mag (q * sgn nb (num ys)), ?_, ?_, ?_, ?_, ?_, by omega, by omega, by omega⟩
  · rw [hq, hr]; exact if_pos ⟨⟨r1, r2⟩, h0⟩
  · rw [mulZ, if_pos ⟨right_mag (by omega), r2⟩, sval_mag, show sval nb ys = sgn nb (num ys) from rfl, fitZ, if_pos (by omega)]
  · rw [addZ, if_pos ⟨right_mag (by omega), right_mag (by omega)⟩, sval_mag, sval_mag]
    have e : q * sgn nb (num ys) + r = sval na xs := by rw [Int.mul_comm]; exact hsum
    obtain ⟨o1, o2⟩ := of_right dx r1
    rw [e, fitZ, o1, o2, if_pos (right_norm (sright_right r1)).1]
  · have g1 : srightB false (mag r) = true := by simp [srightB, right_of (show (mag r).length ≤ 256 by omega) (norm_digs _)]
    have g2 : srightB false ys = true := by simp [srightB, sright_right r2]
    rw [cmpZ, if_pos ⟨g1, g2⟩, if_pos]
    show (num (mag r) : Int) < (num ys : Int)
    rw [← e2.2, num_digs]; omega
  · intro hl
    rw [← e2.1]
    rw [← e2.2] at hl
    simp only [signB]
    rw [decide_eq_true (by omega)]; simp
end Go.Proofs.YtbbemgeinlehmaaGreatDoor.Bk

namespace Go.Proofs.YtbbemgeinlehmaaGreatDoor.Ref03
set_option linter.unusedVariables false
open Go.Proofs.YtbbemgeinlehmaaGreatDoor.Dig Go.Proofs.YtbbemgeinlehmaaGreatDoor.Bk

def Und (v : Int) (k : Nat) : Prop := v.natAbs < 4294967296 ^ k
theorem Und.len {v : Int} {k : Nat} (h : Und v k) (hk : k ≤ 255) : (mag v).length ≤ 256 := by
  have := len_of (n := v.natAbs) (X := v.natAbs) (Y := 0) (k := k) h (Nat.pow_pos (by omega)) (by omega)
  unfold mag; omega
theorem Und.add {u v : Int} {k : Nat} (h : Und u k) (h' : Und v k) : Und (u + v) (k + 1) := by
  have := sum_lt h h'
  have h2 := Int.natAbs_add_le u v
  unfold Und; omega
theorem Und.mul {u v : Int} {i j : Nat} (h : Und u i) (h' : Und v j) : Und (u * v) (i + j) := by
  unfold Und; rw [Int.natAbs_mul, Nat.pow_add]
  exact Nat.mul_lt_mul'' h h'
theorem Und.up {u : Int} {i j : Nat} (h : Und u i) (hij : i ≤ j) : Und u j := Nat.lt_of_lt_of_le h (Nat.pow_le_pow_right (by omega) hij)
theorem Und.neg {u : Int} {i : Nat} (h : Und u i) : Und (-u) i := by unfold Und; rw [Int.natAbs_neg]; exact h
theorem addN {u v : Int} {k : Nat} (h : Und u k) (h' : Und v k) (hk : k ≤ 254) : addZ (ngB u) (mag u) (ngB v) (mag v) = ((ngB (u + v), mag (u + v)), 0) := by
  unfold addZ
  rw [if_pos ⟨right_mag (h.len (by omega)), right_mag (h'.len (by omega))⟩, sval_mag, sval_mag]
  unfold fitZ
  rw [if_pos ((h.add h').len (by omega))]
theorem mulN {u v : Int} {i j : Nat} (h : Und u i) (h' : Und v j) (hk : i + j ≤ 255) : mulZ (ngB u) (mag u) (ngB v) (mag v) = ((ngB (u * v), mag (u * v)), 0) := by
  unfold mulZ
  rw [if_pos ⟨right_mag (h.len (by omega)), right_mag (h'.len (by omega))⟩, sval_mag, sval_mag]
  unfold fitZ
  rw [if_pos ((h.mul h').len (by omega))]
/-- a right number of at most 30 digits is the sign and the digits of an integer -/
theorem int_of {b : Bool} {d : List Nat} (dx : IsDig d) (r : srightB b d = true) (l : d.length ≤ 30) : ∃ v : Int, b = ngB v ∧ d = mag v ∧ Und v 30 := by
  have o := of_right dx r
  refine ⟨sval b d, o.1.symm, o.2.symm, ?_⟩
  unfold Und; rw [sval_abs]
  exact Nat.lt_of_lt_of_le (num_lt dx) (Nat.pow_le_pow_right (by omega) l)
def Laws (b0 b1 b2 : Bool) (d0 d1 d2 : List Nat) (n : Nat → Bool) (s : Nat → List Nat) : Prop :=
  (negZ b0 d0 = ((n 1, s 1), 0) ∧ addZ b0 d0 (n 1) (s 1) = ((false, []), 0) ∧ addZ b0 d0 b1 d1 = ((n 2, s 2), 0) ∧ addZ b1 d1 b0 d0 = ((n 2, s 2), 0) ∧
   mulZ b0 d0 b1 d1 = ((n 3, s 3), 0) ∧ mulZ b1 d1 b0 d0 = ((n 3, s 3), 0)) ∧
  (addZ (n 2) (s 2) b2 d2 = ((n 4, s 4), 0) ∧ addZ b1 d1 b2 d2 = ((n 5, s 5), 0) ∧ addZ b0 d0 (n 5) (s 5) = ((n 4, s 4), 0) ∧
   mulZ (n 3) (s 3) b2 d2 = ((n 6, s 6), 0) ∧ mulZ b1 d1 b2 d2 = ((n 7, s 7), 0) ∧ mulZ b0 d0 (n 7) (s 7) = ((n 6, s 6), 0)) ∧
  (mulZ (n 2) (s 2) b2 d2 = ((n 8, s 8), 0) ∧ mulZ b0 d0 b2 d2 = ((n 9, s 9), 0) ∧ addZ (n 9) (s 9) (n 7) (s 7) = ((n 8, s 8), 0)) ∧
  (∀ i, (s i).length ≤ 256) ∧ (∀ i, srightB (n i) (s i) = true)
theorem laws_nums {b0 b1 b2 : Bool} {d0 d1 d2 : List Nat} (x0 : IsDig d0) (x1 : IsDig d1) (x2 : IsDig d2) (r0 : srightB b0 d0 = true) (r1 : srightB b1 d1 = true) (r2 : srightB b2 d2 = true) (l0 : d0.length ≤ 30) (l1 : d1.length ≤ 30) (l2 : d2.length ≤ 30) : ∃ n s, Laws b0 b1 b2 d0 d1 d2 n s := by
  obtain ⟨X, rfl, rfl, hX⟩ := int_of x0 r0 l0
  obtain ⟨Y, rfl, rfl, hY⟩ := int_of x1 r1 l1
  obtain ⟨Z, rfl, rfl, hZ⟩ := int_of x2 r2 l2
  obtain ⟨V, hV⟩ : ∃ V : Nat → Int, V = fun i => match i with | 1 => -X | 2 => X + Y | 3 => X * Y | 4 => X + Y + Z | 5 => Y + Z | 6 => X * Y * Z | 7 => Y * Z | 8 => (X + Y) * Z | 9 => X * Z | _ => 0 := ⟨_, rfl⟩
  have v1 : V 1 = -X := by subst hV; rfl
  have v2 : V 2 = X + Y := by subst hV; rfl
  have v3 : V 3 = X * Y := by subst hV; rfl
  have v4 : V 4 = X + Y + Z := by subst hV; rfl
  have v5 : V 5 = Y + Z := by subst hV; rfl
  have v6 : V 6 = X * Y * Z := by subst hV; rfl
  have v7 : V 7 = Y * Z := by subst hV; rfl
  have v8 : V 8 = (X + Y) * Z := by subst hV; rfl
  have v9 : V 9 = X * Z := by subst hV; rfl
  have hU : ∀ i, Und (V i) 100 := by
    intro i; rw [hV]; dsimp only
    have z : Und 0 100 := by unfold Und; exact Nat.pow_pos (by omega)
    have a := hX.add hY
    split
    · exact hX.neg.up (by omega)
    · exact a.up (by omega)
    · exact (hX.mul hY).up (by omega)
    · exact (a.add (hZ.up (by omega))).up (by omega)
    · exact (hY.add hZ).up (by omega)
    · exact ((hX.mul hY).mul hZ).up (by omega)
    · exact (hY.mul hZ).up (by omega)
    · exact (a.mul hZ).up (by omega)
    · exact (hX.mul hZ).up (by omega)
    · exact z
  clear hV
  have hX' := hX.up (j := 100) (by omega)
  have hY' := hY.up (j := 100) (by omega)
  have hZ' := hZ.up (j := 100) (by omega)
  refine ⟨fun i => ngB (V i), fun i => mag (V i), ⟨?_, ?_, ?_, ?_, ?_, ?_⟩, ⟨?_, ?_, ?_, ?_, ?_, ?_⟩, ⟨?_, ?_, ?_⟩, fun i => (hU i).len (by omega), fun i => right_mag ((hU i).len (by omega))⟩
  · show negZ _ _ = ((ngB (V 1), mag (V 1)), 0)
    unfold negZ
    rw [if_pos r0, sval_mag, v1]
  · show addZ _ _ (ngB (V 1)) (mag (V 1)) = _
    rw [addN hX' (hU 1) (by omega), v1, show X + -X = 0 by omega]
    rfl
  · show addZ _ _ _ _ = ((ngB (V 2), mag (V 2)), 0)
    rw [addN hX' hY' (by omega), v2]
  · show addZ _ _ _ _ = ((ngB (V 2), mag (V 2)), 0)
    rw [addN hY' hX' (by omega), v2, Int.add_comm]
  · show mulZ _ _ _ _ = ((ngB (V 3), mag (V 3)), 0)
    rw [mulN hX' hY' (by omega), v3]
  · show mulZ _ _ _ _ = ((ngB (V 3), mag (V 3)), 0)
    rw [mulN hY' hX' (by omega), v3, Int.mul_comm]
  · show addZ (ngB (V 2)) (mag (V 2)) _ _ = ((ngB (V 4), mag (V 4)), 0)
    rw [addN (hU 2) hZ' (by omega), v2, v4]
  · show addZ _ _ _ _ = ((ngB (V 5), mag (V 5)), 0)
    rw [addN hY' hZ' (by omega), v5]
  · show addZ _ _ (ngB (V 5)) (mag (V 5)) = ((ngB (V 4), mag (V 4)), 0)
    rw [addN hX' (hU 5) (by omega), v5, v4, Int.add_assoc]
  · show mulZ (ngB (V 3)) (mag (V 3)) _ _ = ((ngB (V 6), mag (V 6)), 0)
    rw [mulN (hU 3) hZ' (by omega), v3, v6]
  · show mulZ _ _ _ _ = ((ngB (V 7), mag (V 7)), 0)
    rw [mulN hY' hZ' (by omega), v7]
  · show mulZ _ _ (ngB (V 7)) (mag (V 7)) = ((ngB (V 6), mag (V 6)), 0)
    rw [mulN hX' (hU 7) (by omega), v7, v6, Int.mul_assoc]
  · show mulZ (ngB (V 2)) (mag (V 2)) _ _ = ((ngB (V 8), mag (V 8)), 0)
    rw [mulN (hU 2) hZ' (by omega), v2, v8]
  · show mulZ _ _ _ _ = ((ngB (V 9), mag (V 9)), 0)
    rw [mulN hX' hZ' (by omega), v9]
  · show addZ (ngB (V 9)) (mag (V 9)) (ngB (V 7)) (mag (V 7)) = ((ngB (V 8), mag (V 8)), 0)
    rw [addN (hU 9) (hU 7) (by omega), v9, v7, v8, Int.add_mul]
end Go.Proofs.YtbbemgeinlehmaaGreatDoor.Ref03

namespace Go.Proofs.YtbbemgeinlehmaaGreatDoor.Fr
set_option linter.unusedVariables false

/-- the fraction of two integers in lowest terms, the second above nought -/
def red (N D : Int) : Int × Int := if D < 0 then (-(N / (Int.gcd N D : Int)), -(D / (Int.gcd N D : Int))) else (N / (Int.gcd N D : Int), D / (Int.gcd N D : Int))
/-- in lowest terms, the second above nought -/
def Low (p : Int × Int) : Prop := 0 < p.2 ∧ Int.gcd p.1 p.2 = 1
theorem mul_right_cancel {a b c : Int} (hc : c ≠ 0) (h : a * c = b * c) : a = b := Int.eq_of_mul_eq_mul_right hc h
theorem gcd_pos_right {N D : Int} (h : D ≠ 0) : 0 < (Int.gcd N D : Int) := by
  have := Int.gcd_pos_of_ne_zero_right N h; omega
theorem parts {N D : Int} : ∃ n d : Int, N / (Int.gcd N D : Int) = n ∧ D / (Int.gcd N D : Int) = d ∧ N = n * (Int.gcd N D : Int) ∧ D = d * (Int.gcd N D : Int) :=
  ⟨_, _, rfl, rfl, (Int.ediv_mul_cancel (Int.gcd_dvd_left N D)).symm, (Int.ediv_mul_cancel (Int.gcd_dvd_right N D)).symm⟩
theorem red_low {N D : Int} (h : D ≠ 0) : Low (red N D) := by
  have hg := gcd_pos_right (N := N) h
  have h1 := Int.gcd_ediv_gcd_ediv_gcd (i := N) (j := D) (by omega)
  obtain ⟨n, d, e1, e2, e3, e4⟩ := parts (N := N) (D := D)
  rw [e1, e2] at h1
  unfold red Low
  rw [e1, e2]
  obtain ⟨g, hgg⟩ : ∃ g : Int, g = (Int.gcd N D : Int) := ⟨_, rfl⟩
  rw [← hgg] at hg e4
  split
  · refine ⟨?_, by simpa using h1⟩
    show 0 < -d
    apply Decidable.byContradiction; intro hn
    have : 0 ≤ d * g := Int.mul_nonneg (by omega) (by omega)
    omega
  · refine ⟨?_, h1⟩
    show 0 < d
    apply Decidable.byContradiction; intro hn
    have : d * g ≤ 0 := Int.mul_nonpos_of_nonpos_of_nonneg (by omega) (by omega)
    omega
theorem red_cross {N D : Int} (h : D ≠ 0) : (red N D).1 * D = N * (red N D).2 := by
  obtain ⟨n, d, e1, e2, e3, e4⟩ := parts (N := N) (D := D)
  unfold red
  rw [e1, e2]
  obtain ⟨g, hgg⟩ : ∃ g : Int, g = (Int.gcd N D : Int) := ⟨_, rfl⟩
  rw [← hgg] at e3 e4
  split
  · show -n * D = N * -d
    subst e3 e4; grind
  · show n * D = N * d
    subst e3 e4; grind
theorem low_unique {p q : Int × Int} (hp : Low p) (hq : Low q) (h : p.1 * q.2 = q.1 * p.2) : p = q := by
  obtain ⟨n, d⟩ := p
  obtain ⟨m, e⟩ := q
  obtain ⟨h1, h2⟩ := hp
  obtain ⟨h3, h4⟩ := hq
  dsimp only at *
  have k1 : d ∣ e := by
    have : d ∣ n * e := ⟨m, by rw [h, Int.mul_comm]⟩
    have h5 : Int.gcd d n = 1 := by rw [Int.gcd_comm]; exact h2
    have h6 := Int.dvd_gcd_mul_iff_dvd_mul.2 this
    rw [h5] at h6; simpa using h6
  have k2 : e ∣ d := by
    have : e ∣ m * d := ⟨n, by rw [← h, Int.mul_comm]⟩
    have h5 : Int.gcd e m = 1 := by rw [Int.gcd_comm]; exact h4
    have h6 := Int.dvd_gcd_mul_iff_dvd_mul.2 this
    rw [h5] at h6; simpa using h6
  have hd : d = e := by
    have a1 := Int.le_of_dvd h3 k1
    have a2 := Int.le_of_dvd h1 k2
    omega
  subst hd
  have := mul_right_cancel (by omega) h
  rw [this]
theorem red_eq {N D N' D' : Int} (h : D ≠ 0) (h' : D' ≠ 0) (e : N * D' = N' * D) : red N D = red N' D' := by
  apply low_unique (red_low h) (red_low h')
  have c1 := red_cross (N := N) h
  have c2 := red_cross (N := N') h'
  apply mul_right_cancel (c := D * D') (by grind [Int.mul_eq_zero])
  generalize red N D = p at *
  generalize red N' D' = q at *
  grind
theorem red_self {p : Int × Int} (h : Low p) : red p.1 p.2 = p := by
  have hd : p.2 ≠ 0 := by have := h.1; omega
  exact low_unique (red_low hd) h (red_cross hd)
/-- the operations, brought to lowest terms -/
def addF (p q : Int × Int) : Int × Int := red (p.1 * q.2 + q.1 * p.2) (p.2 * q.2)
def mulF (p q : Int × Int) : Int × Int := red (p.1 * q.1) (p.2 * q.2)
def divF (p q : Int × Int) : Int × Int := red (p.1 * q.2) (p.2 * q.1)
theorem ne_mul {a b : Int} (ha : a ≠ 0) (hb : b ≠ 0) : a * b ≠ 0 := by grind [Int.mul_eq_zero]
theorem red_ne {N D : Int} (h : D ≠ 0) : (red N D).2 ≠ 0 := by have := (red_low (N := N) h).1; omega
theorem addF_red {N D N' D' : Int} (h : D ≠ 0) (h' : D' ≠ 0) : addF (red N D) (red N' D') = red (N * D' + N' * D) (D * D') := by
  unfold addF
  have c1 := red_cross (N := N) h
  have c2 := red_cross (N := N') h'
  have n1 := red_ne (N := N) h
  have n2 := red_ne (N := N') h'
  refine red_eq (ne_mul n1 n2) (ne_mul h h') ?_
  generalize red N D = p at *
  generalize red N' D' = q at *
  grind
theorem mulF_red {N D N' D' : Int} (h : D ≠ 0) (h' : D' ≠ 0) : mulF (red N D) (red N' D') = red (N * N') (D * D') := by
  unfold mulF
  have c1 := red_cross (N := N) h
  have c2 := red_cross (N := N') h'
  have n1 := red_ne (N := N) h
  have n2 := red_ne (N := N') h'
  refine red_eq (ne_mul n1 n2) (ne_mul h h') ?_
  generalize red N D = p at *
  generalize red N' D' = q at *
  grind
theorem addF_comm (p q : Int × Int) : addF p q = addF q p := by
  unfold addF; rw [Int.add_comm, Int.mul_comm p.2]
theorem mulF_comm (p q : Int × Int) : mulF p q = mulF q p := by
  unfold mulF; rw [Int.mul_comm p.1, Int.mul_comm p.2]
theorem as_red {p : Int × Int} (h : Low p) : ∃ N D, D ≠ 0 ∧ p = red N D := ⟨p.1, p.2, by have := h.1; omega, (red_self h).symm⟩
theorem addF_low {p q : Int × Int} (hp : Low p) (hq : Low q) : Low (addF p q) := red_low (ne_mul (by have := hp.1; omega) (by have := hq.1; omega))
theorem mulF_low {p q : Int × Int} (hp : Low p) (hq : Low q) : Low (mulF p q) := red_low (ne_mul (by have := hp.1; omega) (by have := hq.1; omega))
theorem divF_low {p q : Int × Int} (hp : Low p) (h0 : q.1 ≠ 0) : Low (divF p q) := red_low (ne_mul (by have := hp.1; omega) h0)
theorem addF_assoc {p q r : Int × Int} (hp : Low p) (hq : Low q) (hr : Low r) : addF (addF p q) r = addF p (addF q r) := by
  obtain ⟨N, D, h, rfl⟩ := as_red hp
  obtain ⟨N', D', h', rfl⟩ := as_red hq
  obtain ⟨M, E, k, rfl⟩ := as_red hr
  rw [addF_red h h', addF_red h' k, addF_red (ne_mul h h') k, addF_red h (ne_mul h' k)]
  exact red_eq (ne_mul (ne_mul h h') k) (ne_mul h (ne_mul h' k)) (by grind)
theorem mulF_assoc {p q r : Int × Int} (hp : Low p) (hq : Low q) (hr : Low r) : mulF (mulF p q) r = mulF p (mulF q r) := by
  obtain ⟨N, D, h, rfl⟩ := as_red hp
  obtain ⟨N', D', h', rfl⟩ := as_red hq
  obtain ⟨M, E, k, rfl⟩ := as_red hr
  rw [mulF_red h h', mulF_red h' k, mulF_red (ne_mul h h') k, mulF_red h (ne_mul h' k)]
  exact red_eq (ne_mul (ne_mul h h') k) (ne_mul h (ne_mul h' k)) (by grind)
theorem distF {p q r : Int × Int} (hp : Low p) (hq : Low q) (hr : Low r) : mulF (addF p q) r = addF (mulF p r) (mulF q r) := by
  obtain ⟨N, D, h, rfl⟩ := as_red hp
  obtain ⟨N', D', h', rfl⟩ := as_red hq
  obtain ⟨M, E, k, rfl⟩ := as_red hr
  rw [addF_red h h', mulF_red h k, mulF_red h' k, mulF_red (ne_mul h h') k, addF_red (ne_mul h k) (ne_mul h' k)]
  exact red_eq (ne_mul (ne_mul h h') k) (ne_mul (ne_mul h k) (ne_mul h' k)) (by grind)
theorem divF_back {p q : Int × Int} (hp : Low p) (hq : Low q) (h0 : q.1 ≠ 0) : mulF (divF p q) q = p := by
  have h1 : p.2 ≠ 0 := by have := hp.1; omega
  have h2 : q.2 ≠ 0 := by have := hq.1; omega
  have e : mulF (divF p q) (red q.1 q.2) = red p.1 p.2 := by
    unfold divF
    rw [mulF_red (ne_mul h1 h0) h2]
    exact red_eq (ne_mul (ne_mul h1 h0) h2) h1 (by grind)
  rwa [red_self hq, red_self hp] at e
/-- of two fractions, which is less -/
def ltF (p q : Int × Int) : Prop := p.1 * q.2 < q.1 * p.2
theorem lt_red {N D N' D' : Int} (h : 0 < D) (h' : 0 < D') : ltF (red N D) (red N' D') ↔ N * D' < N' * D := by
  unfold ltF
  have c1 := red_cross (N := N) (D := D) (by omega)
  have c2 := red_cross (N := N') (D := D') (by omega)
  have n1 := (red_low (N := N) (D := D) (by omega)).1
  have n2 := (red_low (N := N') (D := D') (by omega)).1
  generalize red N D = p at *
  generalize red N' D' = q at *
  have k1 : 0 < D * D' := Int.mul_pos h h'
  have k2 : 0 < p.2 * q.2 := Int.mul_pos n1 n2
  have e : (p.1 * q.2) * (D * D') = (N * D') * (p.2 * q.2) := by grind
  have e2 : (q.1 * p.2) * (D * D') = (N' * D) * (p.2 * q.2) := by grind
  constructor
  · intro hh
    have := Int.mul_lt_mul_of_pos_right hh k1
    rw [e, e2] at this
    exact Int.lt_of_mul_lt_mul_right this (by omega)
  · intro hh
    have := Int.mul_lt_mul_of_pos_right hh k2
    rw [← e, ← e2] at this
    exact Int.lt_of_mul_lt_mul_right this (by omega)
theorem lt_add {p q r : Int × Int} (hp : Low p) (hq : Low q) (hr : Low r) : ltF (addF p r) (addF q r) ↔ ltF p q := by
  have h1 := hp.1
  have h2 := hq.1
  have h3 := hr.1
  unfold addF
  rw [lt_red (Int.mul_pos h1 h3) (Int.mul_pos h2 h3)]
  unfold ltF
  have k : 0 < r.2 * r.2 := Int.mul_pos h3 h3
  have e : (p.1 * r.2 + r.1 * p.2) * (q.2 * r.2) - (q.1 * r.2 + r.1 * q.2) * (p.2 * r.2) = (p.1 * q.2 - q.1 * p.2) * (r.2 * r.2) := by grind
  constructor
  · intro hh
    have h5 : (p.1 * q.2 - q.1 * p.2) * (r.2 * r.2) < 0 * (r.2 * r.2) := by omega
    have := Int.lt_of_mul_lt_mul_right h5 (by omega)
    omega
  · intro hh
    have h5 : (p.1 * q.2 - q.1 * p.2) * (r.2 * r.2) < 0 * (r.2 * r.2) := Int.mul_lt_mul_of_pos_right (by omega) k
    omega
theorem eq_of_not_lt {p q : Int × Int} (hp : Low p) (hq : Low q) (h1 : ¬ ltF p q) (h2 : ¬ ltF q p) : p = q :=
  low_unique hp hq (by unfold ltF at *; omega)
/-- how large what is brought to lowest terms is -/
theorem red_le (N D : Int) : (red N D).1.natAbs ≤ N.natAbs ∧ (red N D).2.natAbs ≤ D.natAbs := by
  obtain ⟨n, d, e1, e2, e3, e4⟩ := parts (N := N) (D := D)
  unfold red
  rw [e1, e2]
  obtain ⟨g, hgg⟩ : ∃ g : Nat, g = Int.gcd N D := ⟨_, rfl⟩
  have key : ∀ x y : Int, y = x * (Int.gcd N D : Int) → (Int.gcd N D = 0 → x = 0) → x.natAbs ≤ y.natAbs := by
    intro x y h h0
    rw [h, Int.natAbs_mul]
    by_cases hz : Int.gcd N D = 0
    · rw [h0 hz]; simp
    · exact Nat.le_mul_of_pos_right _ (by rw [Int.natAbs_natCast]; omega)
  have z1 : Int.gcd N D = 0 → n = 0 := fun h => by rw [← e1, h]; simp
  have z2 : Int.gcd N D = 0 → d = 0 := fun h => by rw [← e2, h]; simp
  have k1 := key n N e3 z1
  have k2 := key d D e4 z2
  split
  · exact ⟨by simpa using k1, by simpa using k2⟩
  · exact ⟨k1, k2⟩
/-- rounded down, and 1 more -/
theorem floor_between {n d : Int} (hd : 0 < d) : n.fdiv d * d ≤ n * 1 ∧ n * 1 < (n.fdiv d + 1) * d := by
  have h1 := Int.fmod_nonneg_of_pos n hd
  have h2 := Int.fmod_lt_of_pos n hd
  have h3 := Int.mul_fdiv_add_fmod n d
  constructor <;> grind
/-- rounded up -/
def ceilF (n d : Int) : Int := -((-n).fdiv d)
theorem ceil_parts {n d : Int} (hd : 0 < d) : ceilF n d = if n.fmod d = 0 then n.fdiv d else n.fdiv d + 1 := by
  unfold ceilF
  have h1 := Int.fmod_nonneg_of_pos n hd
  have h2 := Int.fmod_lt_of_pos n hd
  have h3 := Int.mul_fdiv_add_fmod n d
  have g1 := Int.fmod_nonneg_of_pos (-n) hd
  have g2 := Int.fmod_lt_of_pos (-n) hd
  have g3 := Int.mul_fdiv_add_fmod (-n) d
  generalize n.fdiv d = q at *
  generalize n.fmod d = r at *
  generalize (-n).fdiv d = q' at *
  generalize (-n).fmod d = r' at *
  have e : d * (q + q') + (r + r') = 0 := by grind
  split
  · rename_i hr
    subst hr
    have : q + q' = 0 := by
      apply Decidable.byContradiction; intro hn
      rcases Int.lt_or_gt_of_ne hn with h | h
      · have : d * (q + q') ≤ d * (-1) := Int.mul_le_mul_of_nonneg_left (by omega) (by omega)
        omega
      · have : d * 1 ≤ d * (q + q') := Int.mul_le_mul_of_nonneg_left (by omega) (by omega)
        omega
    omega
  · have : q + q' = -1 := by
      apply Decidable.byContradiction; intro hn
      rcases Int.lt_or_gt_of_ne hn with h | h
      · have : d * (q + q') ≤ d * (-2) := Int.mul_le_mul_of_nonneg_left (by omega) (by omega)
        omega
      · have : d * 0 ≤ d * (q + q') := Int.mul_le_mul_of_nonneg_left (by omega) (by omega)
        omega
    omega
end Go.Proofs.YtbbemgeinlehmaaGreatDoor.Fr

namespace Go.Proofs.YtbbemgeinlehmaaGreatDoor.R4
open Go.RowKit
set_option linter.unusedVariables false
open Go.Proofs.YtbbemgeinlehmaaGreatDoor.Dig Go.Proofs.YtbbemgeinlehmaaGreatDoor.Ref03 Go.Proofs.YtbbemgeinlehmaaGreatDoor.Bk Go.Proofs.YtbbemgeinlehmaaGreatDoor.Fr

/-- a number's sign and digits -/
abbrev Nm := Bool × List Nat
abbrev pz (z : Int) : Nm := (ngB z, mag z)
/-- a fraction's two numbers -/
abbrev Fz := Nm × Nm
abbrev pf (p : Int × Int) : Fz := (pz p.1, pz p.2)
abbrev nilF : Fz := ((false, []), (false, []))
/-- is the number 1 -/
def oneB (n : Nm) : Bool := !n.1 && decide (n.2 = [1])
def wellB (a : Fz) : Bool := srightB a.1.1 a.1.2 && (srightB a.2.1 a.2.2 && (decide (a.1.2.length ≤ 64) && (decide (a.2.2.length ≤ 64) && (!a.2.1 && decide (a.2.2.length ≠ 0)))))
/-- may the fraction be -/
def rrB (a : Fz) : Bool := wellB a && decide (Nat.gcd (num a.1.2) (num a.2.2) = 1)
def valF (a : Fz) : Int × Int := (sval a.1.1 a.1.2, sval a.2.1 a.2.2)
/-- a fraction, if its numbers have not too many digits -/
def fitF (p : Int × Int) : Fz × Int := if (mag p.1).length ≤ 64 ∧ (mag p.2).length ≤ 64 then (pf p, 0) else (nilF, 3)
def makeR (n d : Nm) : Fz × Int := if (srightB n.1 n.2 = true ∧ srightB d.1 d.2 = true) ∧ d.2.length ≠ 0 then fitF (red (sval n.1 n.2) (sval d.1 d.2)) else (nilF, 2)
def addR (a b : Fz) : Fz × Int := if rrB a = true ∧ rrB b = true then fitF (addF (valF a) (valF b)) else (nilF, 2)
def mulR (a b : Fz) : Fz × Int := if rrB a = true ∧ rrB b = true then fitF (mulF (valF a) (valF b)) else (nilF, 2)
def divR (a b : Fz) : Fz × Int := if (rrB a = true ∧ rrB b = true) ∧ b.1.2.length ≠ 0 then fitF (divF (valF a) (valF b)) else (nilF, 2)
def negR (a : Fz) : Fz × Int := if rrB a = true then ((pz (-(valF a).1), a.2), 0) else (nilF, 2)
def cmpI (x y : Int) : Int := if x < y then -1 else if y < x then 1 else 0
def cmpR (a b : Fz) : Int × Int := if rrB a = true ∧ rrB b = true then (cmpI ((valF a).1 * (valF b).2) ((valF b).1 * (valF a).2), 0) else (0, 2)
def floorR (a : Fz) : Nm × Int := if rrB a = true then (pz ((valF a).1.fdiv (valF a).2), 0) else ((false, []), 2)
def ceilR (a : Fz) : Nm × Int := if rrB a = true then (pz (ceilF (valF a).1 (valF a).2), 0) else ((false, []), 2)
def textR (a : Fz) : List UInt8 × Int := if rrB a = true then ((textZ a.1.1 a.1.2).1 ++ (if oneB a.2 = true then [] else 47 :: (textZ a.2.1 a.2.2).1), 0) else ([], 2)
def ofR (n : Int) : Fz := pf (n, 1)

theorem well_parts {a : Fz} (h : wellB a = true) : srightB a.1.1 a.1.2 = true ∧ srightB a.2.1 a.2.2 = true ∧ a.1.2.length ≤ 64 ∧ a.2.2.length ≤ 64 ∧ a.2.1 = false ∧ a.2.2.length ≠ 0 := by
  simpa [wellB] using h
theorem rr_parts {a : Fz} (h : rrB a = true) : wellB a = true ∧ Nat.gcd (num a.1.2) (num a.2.2) = 1 := by
  simpa [rrB] using h
/-- a fraction that may be is its value's -/
theorem rr_low {a : Fz} (dx : IsDig a.1.2) (dy : IsDig a.2.2) (h : rrB a = true) : Low (valF a) ∧ pf (valF a) = a ∧ (mag (valF a).1).length ≤ 64 ∧ (mag (valF a).2).length ≤ 64 := by
  obtain ⟨hw, hg⟩ := rr_parts h
  obtain ⟨h1, h2, h3, h4, h5, h6⟩ := well_parts hw
  obtain ⟨o1, o2⟩ := of_right dx h1
  obtain ⟨o3, o4⟩ := of_right dy h2
  obtain ⟨⟨na, xs⟩, ⟨nb, ys⟩⟩ := a
  dsimp only at *
  subst h5
  have hp := num_pos (right_norm (sright_right h2)).2 h6
  refine ⟨⟨?_, ?_⟩, ?_, ?_, ?_⟩
  · show 0 < sval false ys
    simp [sval]; omega
  · show Int.gcd (sval na xs) (sval false ys) = 1
    rw [Int.gcd_eq_natAbs_gcd_natAbs, sval_abs, sval_abs]; exact hg
  · show ((ngB (sval na xs), mag (sval na xs)), (ngB (sval false ys), mag (sval false ys))) = _
    rw [o1, o2, o3, o4]
  · show (mag (sval na xs)).length ≤ 64
    rw [o2]; exact h3
  · show (mag (sval false ys)).length ≤ 64
    rw [o4]; exact h4
theorem valF_pf (p : Int × Int) : valF (pf p) = p := by
  unfold valF; simp only [sval_mag]
theorem mag_ne {z : Int} (h : z ≠ 0) : (mag z).length ≠ 0 := by
  have e := mag_len z
  intro hz; rw [hz] at e; simp [h] at e
theorem pf_rr {p : Int × Int} (h : Low p) (l1 : (mag p.1).length ≤ 64) (l2 : (mag p.2).length ≤ 64) : rrB (pf p) = true := by
  have hd := h.1
  have g : Nat.gcd (num (mag p.1)) (num (mag p.2)) = 1 := by
    unfold mag; rw [num_digs, num_digs, ← Int.gcd_eq_natAbs_gcd_natAbs]; exact h.2
  have e : ngB p.2 = false := by simp [ngB]; omega
  have a1 := right_mag (show (mag p.1).length ≤ 256 by omega)
  have a2 := right_mag (show (mag p.2).length ≤ 256 by omega)
  have a3 := mag_ne (z := p.2) (by omega)
  have w : wellB (pf p) = true := by
    unfold wellB
    show (srightB (ngB p.1) (mag p.1) && (srightB (ngB p.2) (mag p.2) && (decide ((mag p.1).length ≤ 64) && (decide ((mag p.2).length ≤ 64) && (!ngB p.2 && decide ((mag p.2).length ≠ 0)))))) = true
    rw [a1, a2, e, decide_eq_true l1, decide_eq_true l2, decide_eq_true a3]; rfl
  unfold rrB
  rw [w]
  show (true && decide (Nat.gcd (num (mag p.1)) (num (mag p.2)) = 1)) = true
  rw [decide_eq_true g]; rfl
theorem fitF_fit {p : Int × Int} (l1 : (mag p.1).length ≤ 64) (l2 : (mag p.2).length ≤ 64) : fitF p = (pf p, 0) := if_pos ⟨l1, l2⟩
/-- a fraction of numbers under 2^(32 i), 2^(32 j) fits -/
theorem und_len {v : Int} {k : Nat} (h : Und v k) : (mag v).length ≤ k := digs_len_le h
theorem und_of {v : Int} {k : Nat} (h : (mag v).length ≤ k) : Und v k := by
  have := num_lt (isDig_digs v.natAbs)
  rw [num_digs] at this
  exact Nat.lt_of_lt_of_le this (Nat.pow_le_pow_right (by omega) h)
theorem und_red {N D : Int} {i j : Nat} (h : Und N i) (h' : Und D j) : Und (red N D).1 i ∧ Und (red N D).2 j := by
  obtain ⟨k1, k2⟩ := red_le N D
  exact ⟨Nat.lt_of_le_of_lt k1 h, Nat.lt_of_le_of_lt k2 h'⟩
/-- both numbers under 2^(32 k) -/
def Sz (p : Int × Int) (k : Nat) : Prop := Und p.1 k ∧ Und p.2 k
theorem Sz.len {p : Int × Int} {k : Nat} (h : Sz p k) (hk : k ≤ 64) : (mag p.1).length ≤ 64 ∧ (mag p.2).length ≤ 64 :=
  ⟨Nat.le_trans (und_len h.1) hk, Nat.le_trans (und_len h.2) hk⟩
theorem Sz.up {p : Int × Int} {i j : Nat} (h : Sz p i) (hij : i ≤ j) : Sz p j := ⟨h.1.up hij, h.2.up hij⟩
theorem Sz.red {N D : Int} {k : Nat} (h : Und N k) (h' : Und D k) : Sz (Fr.red N D) k := und_red h h'
theorem Sz.add {p q : Int × Int} {i j : Nat} (h : Sz p i) (h' : Sz q j) : Sz (addF p q) (i + j + 1) :=
  Sz.red ((h.1.mul h'.2).add ((h'.1.mul h.2).up (by omega))) ((h.2.mul h'.2).up (by omega))
theorem Sz.mul {p q : Int × Int} {i j : Nat} (h : Sz p i) (h' : Sz q j) : Sz (mulF p q) (i + j) := Sz.red (h.1.mul h'.1) (h.2.mul h'.2)
theorem Sz.div {p q : Int × Int} {i j : Nat} (h : Sz p i) (h' : Sz q j) : Sz (divF p q) (i + j) := Sz.red (h.1.mul h'.2) (h.2.mul h'.1)
theorem Sz.rr {p : Int × Int} {k : Nat} (h : Sz p k) (hl : Low p) (hk : k ≤ 64) : rrB (pf p) = true := pf_rr hl (h.len hk).1 (h.len hk).2
theorem addR_pf {p q : Int × Int} {i j : Nat} (h : Sz p i) (h' : Sz q j) (hp : Low p) (hq : Low q) (hk : i + j + 1 ≤ 64) : addR (pf p) (pf q) = (pf (addF p q), 0) := by
  unfold addR
  rw [if_pos ⟨h.rr hp (by omega), h'.rr hq (by omega)⟩, valF_pf, valF_pf]
  exact fitF_fit ((h.add h').len hk).1 ((h.add h').len hk).2
theorem mulR_pf {p q : Int × Int} {i j : Nat} (h : Sz p i) (h' : Sz q j) (hp : Low p) (hq : Low q) (hk : i + j ≤ 64) : mulR (pf p) (pf q) = (pf (mulF p q), 0) := by
  unfold mulR
  rw [if_pos ⟨h.rr hp (by omega), h'.rr hq (by omega)⟩, valF_pf, valF_pf]
  exact fitF_fit ((h.mul h').len hk).1 ((h.mul h').len hk).2
theorem divR_pf {p q : Int × Int} {i j : Nat} (h : Sz p i) (h' : Sz q j) (hp : Low p) (hq : Low q) (h0 : q.1 ≠ 0) (hk : i + j ≤ 64) : divR (pf p) (pf q) = (pf (divF p q), 0) := by
  unfold divR
  rw [if_pos ⟨⟨h.rr hp (by omega), h'.rr hq (by omega)⟩, mag_ne h0⟩, valF_pf, valF_pf]
  exact fitF_fit ((h.div h').len hk).1 ((h.div h').len hk).2
theorem cmpR_pf {p q : Int × Int} {i j : Nat} (h : Sz p i) (h' : Sz q j) (hp : Low p) (hq : Low q) (hi : i ≤ 64) (hj : j ≤ 64) : cmpR (pf p) (pf q) = (cmpI (p.1 * q.2) (q.1 * p.2), 0) := by
  unfold cmpR
  rw [if_pos ⟨h.rr hp hi, h'.rr hq hj⟩, valF_pf, valF_pf]
/-- a fraction that may be, of numbers of at most k digits -/
theorem frac_of {a : Fz} (dx : IsDig a.1.2) (dy : IsDig a.2.2) (h : rrB a = true) {k : Nat} (l1 : a.1.2.length ≤ k) (l2 : a.2.2.length ≤ k) : ∃ p, a = pf p ∧ Low p ∧ Sz p k := by
  obtain ⟨h1, h2, _, _⟩ := rr_low dx dy h
  refine ⟨valF a, h2.symm, h1, ?_⟩
  have e1 : mag (valF a).1 = a.1.2 := congrArg (fun x : Fz => x.1.2) h2
  have e2 : mag (valF a).2 = a.2.2 := congrArg (fun x : Fz => x.2.2) h2
  exact ⟨und_of (by rw [e1]; exact l1), und_of (by rw [e2]; exact l2)⟩
end Go.Proofs.YtbbemgeinlehmaaGreatDoor.R4

namespace Go.Proofs.YtbbemgeinlehmaaGreatDoor.R4
open Go.RowKit
set_option linter.unusedVariables false
open Go.Proofs.YtbbemgeinlehmaaGreatDoor.Dig Go.Proofs.YtbbemgeinlehmaaGreatDoor.Ref03 Go.Proofs.YtbbemgeinlehmaaGreatDoor.Bk Go.Proofs.YtbbemgeinlehmaaGreatDoor.Fr

def LawsF (x y z : Fz) (G : Nat → Fz) : Prop :=
  (addR x y = (G 1, 0) ∧ addR y x = (G 1, 0) ∧ mulR x y = (G 2, 0) ∧ mulR y x = (G 2, 0)) ∧
  (addR (G 1) z = (G 3, 0) ∧ addR y z = (G 4, 0) ∧ addR x (G 4) = (G 3, 0) ∧ mulR (G 2) z = (G 5, 0) ∧ mulR y z = (G 6, 0) ∧ mulR x (G 6) = (G 5, 0)) ∧
  (mulR (G 1) z = (G 7, 0) ∧ mulR x z = (G 8, 0) ∧ addR (G 8) (G 6) = (G 7, 0)) ∧
  (y.1.2.length = 0 → divR x y = (nilF, 2)) ∧ (y.1.2.length ≠ 0 → divR x y = (G 9, 0) ∧ mulR (G 9) y = (x, 0)) ∧
  (∀ i, rrB (G i) = true)
theorem len_zero {z : Int} (h : (mag z).length = 0) : z = 0 := by
  apply Decidable.byContradiction; intro hn; exact mag_ne hn h
theorem laws_fracs {x y z : Fz} (dx : IsDig x.1.2) (dx' : IsDig x.2.2) (dy : IsDig y.1.2) (dy' : IsDig y.2.2) (dz : IsDig z.1.2) (dz' : IsDig z.2.2) (rx : rrB x = true) (ry : rrB y = true) (rz : rrB z = true)
    (lx : x.1.2.length ≤ 8) (lx' : x.2.2.length ≤ 8) (ly : y.1.2.length ≤ 8) (ly' : y.2.2.length ≤ 8) (lz : z.1.2.length ≤ 8) (lz' : z.2.2.length ≤ 8) : ∃ G, LawsF x y z G := by
  obtain ⟨p, rfl, hp, sp⟩ := frac_of dx dx' rx lx lx'
  obtain ⟨q, rfl, hq, sq⟩ := frac_of dy dy' ry ly ly'
  obtain ⟨r, rfl, hr, sr⟩ := frac_of dz dz' rz lz lz'
  clear dx dx' dy dy' dz dz' rx ry rz lx lx' ly ly' lz lz'
  have h1 := addF_low hp hq
  have s1 := sp.add sq
  have h2 := mulF_low hp hq
  have s2 := sp.mul sq
  have h4 := addF_low hq hr
  have s4 := sq.add sr
  have h6 := mulF_low hq hr
  have s6 := sq.mul sr
  have h8 := mulF_low hp hr
  have s8 := sp.mul sr
  obtain ⟨V, hV⟩ : ∃ V : Nat → Int × Int, V = fun i => match i with | 1 => addF p q | 2 => mulF p q | 3 => addF (addF p q) r | 4 => addF q r | 5 => mulF (mulF p q) r | 6 => mulF q r | 7 => mulF (addF p q) r | 8 => mulF p r | 9 => (if q.1 = 0 then p else divF p q) | _ => p := ⟨_, rfl⟩
  have v1 : V 1 = addF p q := by subst hV; rfl
  have v2 : V 2 = mulF p q := by subst hV; rfl
  have v3 : V 3 = addF (addF p q) r := by subst hV; rfl
  have v4 : V 4 = addF q r := by subst hV; rfl
  have v5 : V 5 = mulF (mulF p q) r := by subst hV; rfl
  have v6 : V 6 = mulF q r := by subst hV; rfl
  have v7 : V 7 = mulF (addF p q) r := by subst hV; rfl
  have v8 : V 8 = mulF p r := by subst hV; rfl
  have v9 : V 9 = (if q.1 = 0 then p else divF p q) := by subst hV; rfl
  have hA : ∀ i, Low (V i) ∧ Sz (V i) 60 := by
    intro i; rw [hV]; dsimp only
    split
    · exact ⟨h1, s1.up (by omega)⟩
    · exact ⟨h2, s2.up (by omega)⟩
    · exact ⟨addF_low h1 hr, (s1.add sr).up (by omega)⟩
    · exact ⟨h4, s4.up (by omega)⟩
    · exact ⟨mulF_low h2 hr, (s2.mul sr).up (by omega)⟩
    · exact ⟨h6, s6.up (by omega)⟩
    · exact ⟨mulF_low h1 hr, (s1.mul sr).up (by omega)⟩
    · exact ⟨h8, s8.up (by omega)⟩
    · split
      · exact ⟨hp, sp.up (by omega)⟩
      · rename_i h0; exact ⟨divF_low hp h0, (sp.div sq).up (by omega)⟩
    · exact ⟨hp, sp.up (by omega)⟩
  clear hV
  refine ⟨fun i => pf (V i), ⟨?_, ?_, ?_, ?_⟩, ⟨?_, ?_, ?_, ?_, ?_, ?_⟩, ⟨?_, ?_, ?_⟩, ?_, ?_, fun i => (hA i).2.rr (hA i).1 (by omega)⟩
  · dsimp only; rw [v1]; exact addR_pf sp sq hp hq (by omega)
  · dsimp only; rw [v1, addF_comm]; exact addR_pf sq sp hq hp (by omega)
  · dsimp only; rw [v2]; exact mulR_pf sp sq hp hq (by omega)
  · dsimp only; rw [v2, mulF_comm]; exact mulR_pf sq sp hq hp (by omega)
  · show addR (pf (V 1)) _ = (pf (V 3), 0)
    rw [v1, v3]; exact addR_pf s1 sr h1 hr (by omega)
  · dsimp only; rw [v4]; exact addR_pf sq sr hq hr (by omega)
  · show addR _ (pf (V 4)) = (pf (V 3), 0)
    rw [v4, v3, addF_assoc hp hq hr]; exact addR_pf sp s4 hp h4 (by omega)
  · show mulR (pf (V 2)) _ = (pf (V 5), 0)
    rw [v2, v5]; exact mulR_pf s2 sr h2 hr (by omega)
  · dsimp only; rw [v6]; exact mulR_pf sq sr hq hr (by omega)
  · show mulR _ (pf (V 6)) = (pf (V 5), 0)
    rw [v6, v5, mulF_assoc hp hq hr]; exact mulR_pf sp s6 hp h6 (by omega)
  · show mulR (pf (V 1)) _ = (pf (V 7), 0)
    rw [v1, v7]; exact mulR_pf s1 sr h1 hr (by omega)
  · dsimp only; rw [v8]; exact mulR_pf sp sr hp hr (by omega)
  · show addR (pf (V 8)) (pf (V 6)) = (pf (V 7), 0)
    rw [v8, v6, v7, distF hp hq hr]; exact addR_pf s8 s6 h8 h6 (by omega)
  · intro h0
    unfold divR
    rw [if_neg (fun h => h.2 h0)]
  · intro h0
    have hn : q.1 ≠ 0 := fun h => h0 (by show (mag q.1).length = 0; rw [h]; rfl)
    dsimp only; rw [v9, if_neg hn]
    refine ⟨divR_pf sp sq hp hq hn (by omega), ?_⟩
    rw [mulR_pf (sp.div sq) sq (divF_low hp hn) hq (by omega), divF_back hp hq hn]
theorem cmpI_swap (x y : Int) : cmpI x y = - cmpI y x := by unfold cmpI; split <;> split <;> (try split) <;> omega
theorem cmpI_zero (x y : Int) : cmpI x y = 0 ↔ x = y := by unfold cmpI; split <;> (try split) <;> omega
theorem cmpI_iff {x y u v : Int} (h : x < y ↔ u < v) (h' : y < x ↔ v < u) : cmpI x y = cmpI u v := by
  unfold cmpI; split <;> split <;> (try split) <;> (try split) <;> omega
/-- order: two fractions, and sums with a third one -/
theorem order_fracs {x y z : Fz} (dx : IsDig x.1.2) (dx' : IsDig x.2.2) (dy : IsDig y.1.2) (dy' : IsDig y.2.2) (dz : IsDig z.1.2) (dz' : IsDig z.2.2) (rx : rrB x = true) (ry : rrB y = true) (rz : rrB z = true)
    (lx : x.1.2.length ≤ 8) (lx' : x.2.2.length ≤ 8) (ly : y.1.2.length ≤ 8) (ly' : y.2.2.length ≤ 8) (lz : z.1.2.length ≤ 8) (lz' : z.2.2.length ≤ 8) :
    ∃ c s t, cmpR x y = (c, 0) ∧ cmpR y x = (-c, 0) ∧ addR x z = (s, 0) ∧ addR y z = (t, 0) ∧ cmpR s t = (c, 0) ∧ (c = 0 ↔ x = y) ∧ rrB s = true ∧ rrB t = true ∧ (c = 0 ∨ c = 1 ∨ c = -1) := by
  obtain ⟨p, rfl, hp, sp⟩ := frac_of dx dx' rx lx lx'
  obtain ⟨q, rfl, hq, sq⟩ := frac_of dy dy' ry ly ly'
  obtain ⟨r, rfl, hr, sr⟩ := frac_of dz dz' rz lz lz'
  clear dx dx' dy dy' dz dz' rx ry rz lx lx' ly ly' lz lz'
  refine ⟨cmpI (p.1 * q.2) (q.1 * p.2), pf (addF p r), pf (addF q r), cmpR_pf sp sq hp hq (by omega) (by omega), ?_, addR_pf sp sr hp hr (by omega), addR_pf sq sr hq hr (by omega), ?_, ?_, (sp.add sr).rr (addF_low hp hr) (by omega), (sq.add sr).rr (addF_low hq hr) (by omega), ?_⟩
  · rw [cmpR_pf sq sp hq hp (by omega) (by omega), cmpI_swap]
  · rw [cmpR_pf (sp.add sr) (sq.add sr) (addF_low hp hr) (addF_low hq hr) (by omega) (by omega)]
    exact congrArg (fun c : Int => (c, (0 : Int))) (cmpI_iff (lt_add hp hq hr) (lt_add hq hp hr))
  · rw [cmpI_zero]
    constructor
    · intro h; rw [low_unique hp hq h]
    · intro h
      have : p = q := by have := congrArg valF h; rwa [valF_pf, valF_pf] at this
      rw [this]
  · unfold cmpI; split
    · exact .inr (.inr rfl)
    · split
      · exact .inr (.inl rfl)
      · exact .inl rfl
end Go.Proofs.YtbbemgeinlehmaaGreatDoor.R4

namespace Go.Proofs.YtbbemgeinlehmaaGreatDoor.R4
open Go.RowKit
set_option linter.unusedVariables false
open Go.Proofs.YtbbemgeinlehmaaGreatDoor.Dig Go.Proofs.YtbbemgeinlehmaaGreatDoor.Ref03 Go.Proofs.YtbbemgeinlehmaaGreatDoor.Bk Go.Proofs.YtbbemgeinlehmaaGreatDoor.Fr

theorem gcd_one (n : Int) : Int.gcd n 1 = 1 := by simp
theorem low_one (n : Int) : Low (n, 1) := ⟨by show (0 : Int) < 1; omega, gcd_one n⟩
theorem red_one (n : Int) : red n 1 = (n, 1) := red_self (p := (n, 1)) (low_one n)
theorem und_one {k : Nat} (h : 1 ≤ k) : Und 1 k := by
  unfold Und
  have : (4294967296 : Nat) ^ 1 ≤ 4294967296 ^ k := Nat.pow_le_pow_right (by omega) h
  simp at this ⊢; omega
theorem sz_one {n : Int} {k : Nat} (h : Und n k) (hk : 1 ≤ k) : Sz (n, 1) k := ⟨h, und_one hk⟩
theorem und_fdiv {n d : Int} {k : Nat} (hd : 0 < d) (h : Und n k) : Und (n.fdiv d) (k + 1) := by
  have h1 := Int.fmod_nonneg_of_pos n hd
  have h2 := Int.fmod_lt_of_pos n hd
  have h3 := Int.mul_fdiv_add_fmod n d
  have hk : (0 : Nat) < 4294967296 ^ k := Nat.pow_pos (by omega)
  have e : (n.fdiv d).natAbs ≤ n.natAbs + 1 := by
    generalize n.fdiv d = q at *
    generalize n.fmod d = r at *
    rcases Int.lt_or_le q 0 with hq | hq
    · have : d * (-q - 1) ≥ 1 * (-q - 1) := Int.mul_le_mul_of_nonneg_right (by omega) (by omega)
      have e2 : d * (-q - 1) = -(d * q) - d := by grind
      omega
    · have : d * q ≥ 1 * q := Int.mul_le_mul_of_nonneg_right (by omega) hq
      omega
  unfold Und at *
  have : (4294967296 : Nat) ^ (k + 1) = 4294967296 ^ k * 4294967296 := Nat.pow_succ ..
  omega
theorem whole_pf {n : Int} {k : Nat} (h : Und n k) (h1 : 1 ≤ k) (hk : k ≤ 64) : makeR (pz n) (pz 1) = (pf (n, 1), 0) := by
  unfold makeR
  have e := red_one n
  rw [if_pos ⟨⟨right_mag (by have := und_len h; omega), by rfl⟩, mag_ne (by omega)⟩, sval_mag, sval_mag, e]
  exact fitF_fit ((sz_one h h1).len hk).1 ((sz_one h h1).len hk).2
theorem floorR_pf {p : Int × Int} {k : Nat} (h : Sz p k) (hp : Low p) (hk : k ≤ 64) : floorR (pf p) = (pz (p.1.fdiv p.2), 0) := by
  unfold floorR; rw [if_pos (h.rr hp hk), valF_pf]
theorem ceilR_pf {p : Int × Int} {k : Nat} (h : Sz p k) (hp : Low p) (hk : k ≤ 64) : ceilR (pf p) = (pz (ceilF p.1 p.2), 0) := by
  unfold ceilR; rw [if_pos (h.rr hp hk), valF_pf]
theorem negR_pf {p : Int × Int} {k : Nat} (h : Sz p k) (hp : Low p) (hk : k ≤ 64) : negR (pf p) = (pf (-p.1, p.2), 0) := by
  unfold negR; rw [if_pos (h.rr hp hk), valF_pf]
theorem low_neg {p : Int × Int} (h : Low p) : Low (-p.1, p.2) := ⟨h.1, by show Int.gcd (-p.1) p.2 = 1; rw [Int.neg_gcd]; exact h.2⟩
/-- rounded down, rounded up, and the next whole number -/
theorem between_frac {a : Fz} (dx : IsDig a.1.2) (dy : IsDig a.2.2) (ra : rrB a = true) (l1 : a.1.2.length ≤ 8) (l2 : a.2.2.length ≤ 8) :
    ∃ q n m p l t c d, floorR a = (q, 0) ∧ ceilR a = (p, 0) ∧ negR a = (n, 0) ∧ floorR n = (m, 0) ∧ negZ m.1 m.2 = (p, 0) ∧ makeR q (pz 1) = (l, 0) ∧ addR l (ofR 1) = (t, 0) ∧ cmpR l a = (c, 0) ∧ cmpR a t = (d, 0) ∧ c ≤ 0 ∧ d < 0 ∧
      (rrB n = true ∧ rrB l = true ∧ rrB t = true) ∧ (q.2.length ≤ 64 ∧ m.2.length ≤ 64 ∧ p.2.length ≤ 64) := by
  obtain ⟨p, rfl, hp, sp⟩ := frac_of dx dy ra l1 l2
  clear dx dy ra l1 l2
  have hn := low_neg hp
  have sn : Sz (-p.1, p.2) 8 := ⟨sp.1.neg, sp.2⟩
  have uq := und_fdiv hp.1 sp.1
  have um := und_fdiv hp.1 sp.1.neg
  have sl := sz_one uq (by omega)
  have s1 : Sz (1, 1) 1 := sz_one (und_one (by omega)) (by omega)
  have hl := low_one (p.1.fdiv p.2)
  have h1 := low_one 1
  obtain ⟨b1, b2⟩ := floor_between (n := p.1) hp.1
  have ht : addF (p.1.fdiv p.2, 1) (1, 1) = (p.1.fdiv p.2 + 1, 1) := by
    unfold addF; simp only [Int.mul_one]; exact red_one _
  have st := sl.add s1
  have lt := addF_low hl h1
  rw [ht] at st lt
  refine ⟨_, _, _, _, _, _, _, -1, floorR_pf sp hp (by omega), ceilR_pf sp hp (by omega), negR_pf sp hp (by omega), floorR_pf sn hn (by omega), ?_, whole_pf uq (by omega) (by omega), addR_pf sl s1 hl h1 (by omega), cmpR_pf sl sp hl hp (by omega) (by omega), ?_, ?_, ?_,
    ⟨sn.rr hn (by omega), sl.rr hl (by omega), by rw [ht]; exact st.rr lt (by omega)⟩, ?_, ?_, ?_⟩
  · dsimp only
    unfold negZ
    rw [if_pos (right_mag (by have := und_len um; omega)), sval_mag]; rfl
  · rw [ht, cmpR_pf sp st hp lt (by omega) (by omega)]
    unfold cmpI; rw [if_pos b2]
  · show cmpI (p.1.fdiv p.2 * p.2) (p.1 * 1) ≤ 0
    unfold cmpI; split
    · omega
    · rw [if_neg (by omega)]; omega
  · omega
  · exact Nat.le_trans (und_len uq) (by omega)
  · exact Nat.le_trans (und_len um) (by omega)
  · exact Nat.le_trans (und_len (v := ceilF p.1 p.2) (k := 9) um.neg) (by omega)
/-- whole numbers as fractions -/
theorem whole_fracs {a b : Int} (ha : -2147483648 ≤ a ∧ a ≤ 2147483647) (hb : -2147483648 ≤ b ∧ b ≤ 2147483647) :
    addR (ofR a) (ofR b) = (ofR (a + b), 0) ∧ mulR (ofR a) (ofR b) = (ofR (a * b), 0) ∧ cmpR (ofR a) (ofR b) = (cmpI a b, 0) ∧ floorR (ofR a) = (pz a, 0) ∧ ceilR (ofR a) = (pz a, 0) ∧
      smallZ (ngB a) (mag a) = (a, 0) ∧ (rrB (ofR a) = true ∧ rrB (ofR b) = true) := by
  have ua : Und a 1 := by unfold Und; omega
  have ub : Und b 1 := by unfold Und; omega
  have sa := sz_one ua (by omega)
  have sb := sz_one ub (by omega)
  have la := low_one a
  have lb := low_one b
  unfold ofR
  refine ⟨?_, ?_, ?_, ?_, ?_, ?_, sa.rr la (by omega), sb.rr lb (by omega)⟩
  · rw [addR_pf sa sb la lb (by omega)]
    unfold addF; simp only [Int.mul_one]; rw [red_one]
  · rw [mulR_pf sa sb la lb (by omega)]
    unfold mulF; simp only [Int.mul_one]; rw [red_one]
  · rw [cmpR_pf sa sb la lb (by omega) (by omega)]; simp only [Int.mul_one]
  · rw [floorR_pf sa la (by omega)]; simp
  · rw [ceilR_pf sa la (by omega)]; unfold ceilF; simp
  · unfold smallZ
    rw [if_pos (right_mag (by have := und_len ua; omega)), sval_mag, if_pos]
    unfold fitsI; omega
end Go.Proofs.YtbbemgeinlehmaaGreatDoor.R4

namespace Go.Proofs.YtbbemgeinlehmaaGreatDoor.R4
open Go.RowKit
set_option linter.unusedVariables false
open Go.Proofs.YtbbemgeinlehmaaGreatDoor.Dig Go.Proofs.YtbbemgeinlehmaaGreatDoor.Ref03 Go.Proofs.YtbbemgeinlehmaaGreatDoor.Bk Go.Proofs.YtbbemgeinlehmaaGreatDoor.Fr

theorem gcd_len {xs ys : List Nat} (rx : rightB xs = true) (dx : IsDig xs) (ry : rightB ys = true) (dy : IsDig ys) : (digs (Nat.gcd (num xs) (num ys))).length ≤ 256 := by
  by_cases h : num xs = 0
  · rw [h, Nat.gcd_zero_left]; exact Nat.le_trans (digs_len_num dy) (right_norm ry).1
  · exact Nat.le_trans (digs_len_mono (Nat.gcd_le_left _ (by omega))) (Nat.le_trans (digs_len_num dx) (right_norm rx).1)
theorem num_nil {ds : List Nat} (h : ds.length = 0) : num ds = 0 := by
  rw [List.eq_nil_of_length_eq_zero h]; rfl
theorem mag_mono {a b : Int} (h : a.natAbs ≤ b.natAbs) : (mag a).length ≤ (mag b).length := digs_len_mono h
theorem mag_sval {na : Bool} {xs : List Nat} (dx : IsDig xs) : (mag (sval na xs)).length ≤ xs.length := by
  unfold mag; rw [sval_abs]; exact digs_len_num dx
theorem negZ_pz {z : Int} (h : (mag z).length ≤ 256) : negZ (ngB z) (mag z) = (pz (-z), 0) := by
  unfold negZ; rw [if_pos (right_mag h), sval_mag]
theorem mag_neg (z : Int) : mag (-z) = mag z := by unfold mag; rw [Int.natAbs_neg]
structure Made (na : Bool) (xs : List Nat) (nb : Bool) (ys : List Nat) (gs : List Nat) (n d : Int) : Prop where
  gcd : gcdZ na xs nb ys = ((false, gs), 0)
  glen : gs.length ≤ 256 ∧ gs.length ≠ 0
  gright : srightB false gs = true
  dn : divZ na xs false gs = ((pz n, pz 0), 0)
  dd : divZ nb ys false gs = ((pz d, pz 0), 0)
  sign : ngB d = nb
  nn : negZ (ngB n) (mag n) = (pz (-n), 0)
  nd : negZ (ngB d) (mag d) = (pz (-d), 0)
  red : Fr.red (sval na xs) (sval nb ys) = (if nb = true then (-n, -d) else (n, d))
  len : (mag n).length ≤ 256 ∧ (mag d).length ≤ 256
theorem made_nums {na nb : Bool} {xs ys : List Nat} (dx : IsDig xs) (dy : IsDig ys) (r1 : srightB na xs = true) (r2 : srightB nb ys = true) (h0 : ys.length ≠ 0) : ∃ gs n d, Made na xs nb ys gs n d := by
  have hx := right_norm (sright_right r1)
  have hy := right_norm (sright_right r2)
  have hY := num_pos hy.2 h0
  have hg : 0 < Nat.gcd (num xs) (num ys) := Nat.gcd_pos_of_pos_right _ hY
  obtain ⟨g, hgg⟩ : ∃ g, g = Nat.gcd (num xs) (num ys) := ⟨_, rfl⟩
  obtain ⟨N, hN⟩ : ∃ N, N = sval na xs := ⟨_, rfl⟩
  obtain ⟨D, hD⟩ : ∃ D, D = sval nb ys := ⟨_, rfl⟩
  have eg : Int.gcd N D = g := by rw [Int.gcd_eq_natAbs_gcd_natAbs, hN, hD, sval_abs, sval_abs, hgg]
  have hL := gcd_len (sright_right r1) dx (sright_right r2) dy
  rw [← hgg] at hg hL
  have hgl : (digs g).length ≠ 0 := fun h => by have := num_nil h; rw [num_digs] at this; omega
  have hgr : srightB false (digs g) = true := by simp [srightB, right_of hL (norm_digs _)]
  have sg : sval false (digs g) = (g : Int) := by simp [sval, num_digs]
  have k1 : (g : Int) ∣ N := eg ▸ Int.gcd_dvd_left N D
  have k2 : (g : Int) ∣ D := eg ▸ Int.gcd_dvd_right N D
  have z : ∀ {X : Int}, (g : Int) ∣ X → X.fdiv (g : Int) = X / (g : Int) ∧ X.fmod (g : Int) = 0 := fun {X} h => by
    rw [Int.fdiv_eq_ediv_of_nonneg _ (by omega), Int.fmod_eq_emod_of_nonneg _ (by omega)]
    exact ⟨rfl, Int.emod_eq_zero_of_dvd h⟩
  obtain ⟨a1, a2⟩ := z k1
  obtain ⟨b1, b2⟩ := z k2
  have l : ∀ {X : Int}, (g : Int) ∣ X → (X / (g : Int)).natAbs ≤ X.natAbs := fun {X} h => by
    have e := Int.ediv_mul_cancel h
    have e2 : X.natAbs = (X / (g : Int)).natAbs * g := by
      have := congrArg Int.natAbs e; rw [Int.natAbs_mul] at this; simpa using this.symm
    rw [e2]; exact Nat.le_mul_of_pos_right _ hg
  have l1 : (mag (N / (g : Int))).length ≤ 256 := Nat.le_trans (mag_mono (l k1)) (by rw [hN]; exact Nat.le_trans (mag_sval dx) hx.1)
  have l2 : (mag (D / (g : Int))).length ≤ 256 := Nat.le_trans (mag_mono (l k2)) (by rw [hD]; exact Nat.le_trans (mag_sval dy) hy.1)
  have hsgn : D < 0 ↔ nb = true := by
    rw [hD]; unfold sval
    cases nb
    · simp
    · simp; omega
  have hd : D = D / (g : Int) * (g : Int) := (Int.ediv_mul_cancel k2).symm
  refine ⟨digs g, N / (g : Int), D / (g : Int), ⟨?_, ⟨hL, hgl⟩, hgr, ?_, ?_, ?_, negZ_pz l1, negZ_pz l2, ?_, l1, l2⟩⟩
  · rw [hgg]; exact if_pos ⟨r1, r2⟩
  · unfold divZ
    rw [if_pos ⟨⟨r1, hgr⟩, hgl⟩, sg, ← hN, a1, a2]
  · unfold divZ
    rw [if_pos ⟨⟨r2, hgr⟩, hgl⟩, sg, ← hD, b1, b2]
  · have hk : D / (g : Int) < 0 ↔ D < 0 := by
      generalize D / (g : Int) = q at *
      constructor
      · intro h; rw [hd]; exact Int.mul_neg_of_neg_of_pos h (by omega)
      · intro h
        apply Decidable.byContradiction; intro hn
        have : 0 ≤ q * (g : Int) := Int.mul_nonneg (by omega) (by omega)
        omega
    unfold ngB
    cases nb
    · rw [decide_eq_false_iff_not, hk, hsgn]; simp
    · rw [decide_eq_true_iff, hk, hsgn]
  · rw [← hN, ← hD]
    unfold Fr.red
    rw [eg]
    by_cases h : D < 0
    · rw [if_pos h, if_pos (hsgn.1 h)]
    · rw [if_neg h, if_neg (fun k => h (hsgn.2 k))]
end Go.Proofs.YtbbemgeinlehmaaGreatDoor.R4

namespace Go.Proofs.YtbbemgeinlehmaaGreatDoor
open Go.RowKit
set_option linter.unusedVariables false
open Go.Proofs.YtbbemgeinlehmaaGreatDoor.Dig

/-- block b holds these cells, and may be written -/
def Bx (W : World) (b : Nat) (cs : Array Value) (t : TypeId) : Prop := W.heap[b]? = some (.cells cs t)
theorem Bx.lt {W : World} {b : Nat} {cs : Array Value} {t : TypeId} (h : Bx W b cs t) : b < W.heap.size := by
  unfold Bx at h
  apply Decidable.byContradiction; intro hn
  rw [Array.getElem?_eq_none (by omega)] at h; cases h
theorem Bx.since {W W' : World} {b : Nat} {cs : Array Value} {t : TypeId} (h : Bx W b cs t) (k : Since W W') : Bx W' b cs t := by
  have hl := h.lt
  unfold Bx at *
  rw [k.block b hl]; exact h
theorem Bx.fresh (W : World) (cs : Array Value) (t : TypeId) : Bx (W.alloc (.cells cs t)) W.heap.size cs t := block_new (Since.refl _)
theorem Bx.new {W W' : World} {cs : Array Value} {t : TypeId} {n : Nat} (k : Since (W.alloc (.cells cs t)) W') (e : W.heap.size = n) : Bx W' n cs t := e ▸ (Bx.fresh W cs t).since k
theorem Bx.cell {W : World} {b : Nat} {cs : Array Value} {t : TypeId} (h : Bx W b cs t) (i : Nat) : W.cell? ⟨b, i, none⟩ = cs[i]? := cell_of_row W b i cs t (0, 0) h
theorem Bx.no {W : World} {b : Nat} {cs : Array Value} {t : TypeId} (h : Bx W b cs t) (i : Nat) : W.frozen? ⟨b, i, none⟩ = false := by
  unfold Bx at h
  simp [World.frozen?, h]
/-- no cell of the block is a digit -/
abbrev plainV : Value → Bool
  | .int .u32 _ => false
  | _ => true
theorem Bx.row {W : World} {b : Nat} {cs : Array Value} {t : TypeId} (h : Bx W b cs t) (hp : cs.all plainV = true) {v : Value} {ds : List Nat} (hr : Row W v ds) (i : Nat) (u : Value) : Row (W.setCell ⟨b, i, none⟩ u) v ds := by
  obtain ⟨h1, A, c, h2, h3, h6⟩ := hr
  refine ⟨h1, A, c, h2, fun hl => ?_, h6⟩
  obtain ⟨g, o, h4, h5⟩ := h3 hl
  refine ⟨g, o, h4, fun j hj => ?_⟩
  have hc := h5 j hj
  have hg : g ≠ b := by
    rintro rfl
    rw [h.cell] at hc
    have := Array.all_eq_true_iff_forall_mem.1 hp _ (Array.mem_of_getElem? hc)
    simp [plainV] at this
  rw [World.cell?_of_block (w := W) (a := ⟨g, o + j, none⟩) (Below.heap_setCell _ _ _ _ (by simpa using hg))]
  exact hc
theorem Bx.other {W : World} {b b' : Nat} {cs : Array Value} {t : TypeId} (h : Bx W b cs t) (hb : b ≠ b') (i : Nat) (u : Value) : Bx (W.setCell ⟨b', i, none⟩ u) b cs t := by
  unfold Bx at *
  rw [Below.heap_setCell _ _ _ _ (by simpa using hb)]; exact h
theorem Bx.two {W : World} {b : Nat} {z0 z1 : Value} {t : TypeId} (h : Bx W b #[z0, z1] t) : W.cell? ⟨b, 0, none⟩ = some z0 ∧ W.cell? ⟨b, 1, none⟩ = some z1 := ⟨h.cell 0, h.cell 1⟩
theorem Bx.four {W : World} {b : Nat} {z0 z1 z2 z3 : Value} {t : TypeId} (h : Bx W b #[z0, z1, z2, z3] t) :
    W.cell? ⟨b, 0, none⟩ = some z0 ∧ W.cell? ⟨b, 1, none⟩ = some z1 ∧ W.cell? ⟨b, 2, none⟩ = some z2 ∧ W.cell? ⟨b, 3, none⟩ = some z3 := ⟨h.cell 0, h.cell 1, h.cell 2, h.cell 3⟩
theorem Bx.two' {W : World} {b : Nat} {z0 z1 : Value} {t : TypeId} (h : Bx W b #[z0, z1] t) : W.frozen? ⟨b, 0, none⟩ = false ∧ W.frozen? ⟨b, 1, none⟩ = false := ⟨h.no 0, h.no 1⟩
theorem Bx.four' {W : World} {b : Nat} {z0 z1 z2 z3 : Value} {t : TypeId} (h : Bx W b #[z0, z1, z2, z3] t) :
    W.frozen? ⟨b, 0, none⟩ = false ∧ W.frozen? ⟨b, 1, none⟩ = false ∧ W.frozen? ⟨b, 2, none⟩ = false ∧ W.frozen? ⟨b, 3, none⟩ = false := ⟨h.no 0, h.no 1, h.no 2, h.no 3⟩
/-- digits lie in no such block: whatever is done to it -/
theorem Bx.rows {W W' : World} {b : Nat} {cs : Array Value} {t : TypeId} (h : Bx W b cs t) (hp : cs.all plainV = true) {v : Value} {ds : List Nat} (hr : Row W v ds) (hk : ∀ k, k ≠ b → W'.heap[k]? = W.heap[k]?) : Row W' v ds := by
  obtain ⟨h1, A, c, h2, h3, h6⟩ := hr
  refine ⟨h1, A, c, h2, fun hl => ?_, h6⟩
  obtain ⟨g, o, h4, h5⟩ := h3 hl
  refine ⟨g, o, h4, fun j hj => ?_⟩
  have hc := h5 j hj
  have hg : g ≠ b := by
    rintro rfl
    rw [h.cell] at hc
    have := Array.all_eq_true_iff_forall_mem.1 hp _ (Array.mem_of_getElem? hc)
    simp [plainV] at this
  rw [World.cell?_of_block (w := W) (w' := W') (a := ⟨g, o + j, none⟩) (hk g hg)]
  exact hc
theorem Bx.rowsI {W W' : World} {b : Nat} {s : Bool} {A : Option Addr} {n c : Nat} {t : TypeId} (h : Bx W b #[.bool s, .slice A n c] t) {v : Value} {ds : List Nat} (hr : Row W v ds) (hk : ∀ k, k ≠ b → W'.heap[k]? = W.heap[k]?) : Row W' v ds := h.rows (by simp [plainV]) hr hk
theorem Bx.rowsR {W W' : World} {b : Nat} {s s' : Bool} {A A' : Option Addr} {n c n' c' : Nat} {t : TypeId} (h : Bx W b #[.bool s, .slice A n c, .bool s', .slice A' n' c'] t) {v : Value} {ds : List Nat} (hr : Row W v ds) (hk : ∀ k, k ≠ b → W'.heap[k]? = W.heap[k]?) : Row W' v ds := h.rows (by simp [plainV]) hr hk
theorem Bx.stay {W W' : World} {b b' : Nat} {cs : Array Value} {t : TypeId} (h : Bx W b cs t) (hb : b ≠ b') (hk : ∀ k, k ≠ b' → W'.heap[k]? = W.heap[k]?) : Bx W' b cs t := (hk b hb).trans h
/-- a number's two cells, a fraction's four, stored -/
abbrev put2 (W : World) (b : Nat) (u0 u1 : Value) : World := (W.setCell ⟨b, 0, none⟩ u0).setCell ⟨b, 1, none⟩ u1
abbrev put4 (W : World) (b : Nat) (u0 u1 u2 u3 : Value) : World := (((W.setCell ⟨b, 0, none⟩ u0).setCell ⟨b, 1, none⟩ u1).setCell ⟨b, 2, none⟩ u2).setCell ⟨b, 3, none⟩ u3
theorem put2_far (W : World) (b : Nat) (u0 u1 : Value) (k : Nat) (h : k ≠ b) : (put2 W b u0 u1).heap[k]? = W.heap[k]? := by
  rw [Below.heap_setCell _ _ _ _ (by simpa using h), Below.heap_setCell _ _ _ _ (by simpa using h)]
theorem put4_far (W : World) (b : Nat) (u0 u1 u2 u3 : Value) (k : Nat) (h : k ≠ b) : (put4 W b u0 u1 u2 u3).heap[k]? = W.heap[k]? := by
  rw [Below.heap_setCell _ _ _ _ (by simpa using h), Below.heap_setCell _ _ _ _ (by simpa using h), Below.heap_setCell _ _ _ _ (by simpa using h), Below.heap_setCell _ _ _ _ (by simpa using h)]
theorem Bx.put2 {W : World} {b : Nat} {z0 z1 : Value} {t : TypeId} (h : Bx W b #[z0, z1] t) (u0 u1 : Value) : Bx (Go.Proofs.YtbbemgeinlehmaaGreatDoor.put2 W b u0 u1) b #[u0, u1] t := by
  have h1 := heap_setCell_same W b 0 _ t u0 h
  exact heap_setCell_same _ b 1 _ t u1 h1
theorem Bx.put4 {W : World} {b : Nat} {z0 z1 z2 z3 : Value} {t : TypeId} (h : Bx W b #[z0, z1, z2, z3] t) (u0 u1 u2 u3 : Value) : Bx (Go.Proofs.YtbbemgeinlehmaaGreatDoor.put4 W b u0 u1 u2 u3) b #[u0, u1, u2, u3] t := by
  have h1 := heap_setCell_same W b 0 _ t u0 h
  have h2 := heap_setCell_same _ b 1 _ t u1 h1
  have h3 := heap_setCell_same _ b 2 _ t u2 h2
  exact heap_setCell_same _ b 3 _ t u3 h3
theorem since_put2 {w W : World} {b : Nat} (h : Since w W) (hb : w.heap.size ≤ b) (u0 u1 : Value) : Since w (put2 W b u0 u1) := (h.set hb _).set hb _
theorem since_put4 {w W : World} {b : Nat} (h : Since w W) (hb : w.heap.size ≤ b) (u0 u1 u2 u3 : Value) : Since w (put4 W b u0 u1 u2 u3) := (((h.set hb _).set hb _).set hb _).set hb _
end Go.Proofs.YtbbemgeinlehmaaGreatDoor

namespace Go.Proofs.YtbbemgeinlehmaaGreatDoor.Ref04
open Go.RowKit
set_option linter.unusedVariables false
open Go.Proofs.YtbbemgeinlehmaaGreatDoor.Dig Go.Proofs.YtbbemgeinlehmaaGreatDoor.R4

/-- ends with a fraction and an error -/
def RetF (r : Fz × Int) (w : World) (e : Ending) (w' : World) : Prop :=
  ∃ A c B d, e = .returned (.tuple #[.agg #[.bool r.1.1.1, .slice A r.1.1.2.length c, .bool r.1.2.1, .slice B r.1.2.2.length d], .int .i64 r.2]) ∧ Row w' (.slice A r.1.1.2.length c) r.1.1.2 ∧ Row w' (.slice B r.1.2.2.length d) r.1.2.2 ∧ Since w w'
theorem RetF.at {r : Fz × Int} {n1 n2 : Bool} {s1 s2 : List Nat} {er : Int} (e : r = (((n1, s1), (n2, s2)), er)) {w : World} {x : Ending} {w' : World} (h : RetF r w x w') :
    ∃ A c B d, x = .returned (.tuple #[.agg #[.bool n1, .slice A s1.length c, .bool n2, .slice B s2.length d], .int .i64 er]) ∧ Row w' (.slice A s1.length c) s1 ∧ Row w' (.slice B s2.length d) s2 ∧ Since w w' := by
  subst e; exact h
theorem RetF.of {r : Fz × Int} {n1 n2 : Bool} {s1 s2 : List Nat} {er : Int} (e : r = (((n1, s1), (n2, s2)), er)) {w : World} {x : Ending} {w' : World}
    (h : ∃ A c B d, x = .returned (.tuple #[.agg #[.bool n1, .slice A s1.length c, .bool n2, .slice B s2.length d], .int .i64 er]) ∧ Row w' (.slice A s1.length c) s1 ∧ Row w' (.slice B s2.length d) s2 ∧ Since w w') : RetF r w x w' := by
  subst e; exact h
theorem parts5 (r : Fz × Int) : ∃ n1 s1 n2 s2 er, r = (((n1, s1), (n2, s2)), er) := ⟨_, _, _, _, _, rfl⟩
/-- ends with a number and an error -/
def RetN (r : Nm × Int) (w : World) (e : Ending) (w' : World) : Prop := ∃ A c, e = .returned (.tuple #[.agg #[.bool r.1.1, .slice A r.1.2.length c], .int .i64 r.2]) ∧ Row w' (.slice A r.1.2.length c) r.1.2 ∧ Since w w'
/-- ends with a fraction -/
def RetFv (a : Fz) (w : World) (e : Ending) (w' : World) : Prop :=
  ∃ A c B d, e = .returned (.agg #[.bool a.1.1, .slice A a.1.2.length c, .bool a.2.1, .slice B a.2.2.length d]) ∧ Row w' (.slice A a.1.2.length c) a.1.2 ∧ Row w' (.slice B a.2.2.length d) a.2.2 ∧ Since w w'
/-- the very same fraction -/
def sameF (a b : Fz) : Bool := (a.1.1 == b.1.1 && sameB a.1.2 b.1.2) && (a.2.1 == b.2.1 && sameB a.2.2 b.2.2)
theorem RetN.at {r : Nm × Int} {n : Bool} {s : List Nat} {er : Int} (e : r = ((n, s), er)) {w : World} {x : Ending} {w' : World} (h : RetN r w x w') :
    ∃ A c, x = .returned (.tuple #[.agg #[.bool n, .slice A s.length c], .int .i64 er]) ∧ Row w' (.slice A s.length c) s ∧ Since w w' := by
  subst e; exact h
theorem parts3 (r : Nm × Int) : ∃ n s er, r = ((n, s), er) := ⟨_, _, _, rfl⟩
theorem sameF_self (a : Fz) : sameF a a = true := by
  unfold sameF; simp [sameB]
end Go.Proofs.YtbbemgeinlehmaaGreatDoor.Ref04

namespace Go.Proofs.YtbbemgeinlehmaaGreatDoor.R4
open Go.RowKit
set_option linter.unusedVariables false
open Go.Proofs.YtbbemgeinlehmaaGreatDoor.Dig Go.Proofs.YtbbemgeinlehmaaGreatDoor.Ref03 Go.Proofs.YtbbemgeinlehmaaGreatDoor.Bk Go.Proofs.YtbbemgeinlehmaaGreatDoor.Fr

def LenF (r : Fz × Int) : Prop := r.1.1.2.length ≤ 64 ∧ r.1.2.2.length ≤ 64
theorem fz_len {r : Fz × Int} {n1 n2 : Bool} {s1 s2 : List Nat} {e : Int} (h : LenF r) (hr : r = (((n1, s1), (n2, s2)), e)) : s1.length ≤ 64 ∧ s2.length ≤ 64 := by subst hr; exact h
theorem lenF_nil (e : Int) : LenF (nilF, e) := ⟨Nat.zero_le _, Nat.zero_le _⟩
theorem fitF_len (p : Int × Int) : LenF (fitF p) := by
  unfold fitF; split
  · rename_i h; exact h
  · exact lenF_nil _
theorem makeR_len (n d : Nm) : LenF (makeR n d) := by unfold makeR; split; exact fitF_len _; exact lenF_nil _
theorem addR_len (a b : Fz) : LenF (addR a b) := by unfold addR; split; exact fitF_len _; exact lenF_nil _
theorem mulR_len (a b : Fz) : LenF (mulR a b) := by unfold mulR; split; exact fitF_len _; exact lenF_nil _
theorem divR_len (a b : Fz) : LenF (divR a b) := by unfold divR; split; exact fitF_len _; exact lenF_nil _
theorem negR_len {a : Fz} (dx : IsDig a.1.2) (dy : IsDig a.2.2) : LenF (negR a) := by
  unfold negR; split
  · rename_i h
    obtain ⟨_, _, h3, _⟩ := rr_low dx dy h
    obtain ⟨_, _, _, h4, _, _⟩ := well_parts (rr_parts h).1
    refine ⟨?_, h4⟩
    show (mag (-(valF a).1)).length ≤ 64
    unfold mag at *; rw [Int.natAbs_neg]; exact h3
  · exact lenF_nil _
theorem nm_len {r : Nm × Int} {n : Bool} {s : List Nat} {e : Int} {k : Nat} (h : r.1.2.length ≤ k) (hr : r = ((n, s), e)) : s.length ≤ k := by subst hr; exact h
theorem floorR_len {a : Fz} (dx : IsDig a.1.2) (dy : IsDig a.2.2) : (floorR a).1.2.length ≤ 65 := by
  unfold floorR; split
  · rename_i h
    obtain ⟨h1, _, h3, _⟩ := rr_low dx dy h
    exact und_len (und_fdiv h1.1 (und_of h3))
  · exact Nat.zero_le _
theorem ceilR_len {a : Fz} (dx : IsDig a.1.2) (dy : IsDig a.2.2) : (ceilR a).1.2.length ≤ 65 := by
  unfold ceilR; split
  · rename_i h
    obtain ⟨h1, _, h3, _⟩ := rr_low dx dy h
    show (mag (ceilF _ _)).length ≤ 65
    unfold ceilF
    rw [show mag (-((-(valF a).1).fdiv (valF a).2)) = mag ((-(valF a).1).fdiv (valF a).2) by unfold mag; rw [Int.natAbs_neg]]
    exact und_len (und_fdiv h1.1 (und_of h3).neg)
  · exact Nat.zero_le _
end Go.Proofs.YtbbemgeinlehmaaGreatDoor.R4
