/- What stays of a variable and of digits while a region runs; how many digits quotients and common divisors have. No code is spoken of. -/
import Derived.Test.YtbkkalmdjcpgoaaDoorZ3l
namespace Go.Proofs.YtbkkalmdjcpgoaaDoor.Law03
open Go.RowKit
set_option linter.unusedVariables false
open Go.Proofs.YtbkkalmdjcpgoaaDoor.Dig
open Go.Proofs.YtbkkalmdjcpgoaaDoor.Ref03 (sv)

/-- a variable of two cells, not yet set -/
def Zero (W : World) (b : Nat) : Prop := W.cell? ⟨b, 0, none⟩ = some (.bool false) ∧ W.cell? ⟨b, 1, none⟩ = some (.slice none 0 0) ∧ W.frozen? ⟨b, 0, none⟩ = false ∧ W.frozen? ⟨b, 1, none⟩ = false
theorem Zero.since {W W' : World} {b : Nat} (h : Zero W b) (k : Since W W') : Zero W' b := by
  obtain ⟨h0, h1, f0, f1⟩ := h
  have hb := World.block_lt_of_cell? _ _ h0
  refine ⟨(k.cell _ hb).trans h0, (k.cell ⟨b, 1, none⟩ hb).trans h1, ?_, ?_⟩
  · rw [Below.frozen k (by exact hb)]; exact f0
  · rw [Below.frozen k (by exact hb)]; exact f1
/-- a variable that was laid ahead of a call, and not yet set, is as it was behind it -/
theorem zero_then {G : Prop} {X x : World} (h : Since X x) (b : Nat) (h0 : X.cell? ⟨b, 0, none⟩ = some (.bool false)) (h1 : X.cell? ⟨b, 1, none⟩ = some (.slice none 0 0))
    (f0 : X.frozen? ⟨b, 0, none⟩ = false) (f1 : X.frozen? ⟨b, 1, none⟩ = false)
    (k : x.cell? ⟨b, 0, none⟩ = some (.bool false) → x.cell? ⟨b, 1, none⟩ = some (.slice none 0 0) → x.frozen? ⟨b, 0, none⟩ = false → x.frozen? ⟨b, 1, none⟩ = false →
      (∀ o, (x.alloc o).cell? ⟨b, 0, none⟩ = some (.bool false)) → (∀ o, (x.alloc o).cell? ⟨b, 1, none⟩ = some (.slice none 0 0)) → (∀ o, (x.alloc o).frozen? ⟨b, 0, none⟩ = false) → (∀ o, (x.alloc o).frozen? ⟨b, 1, none⟩ = false) →
      (∀ o p, ((x.alloc o).alloc p).cell? ⟨b, 0, none⟩ = some (.bool false)) → (∀ o p, ((x.alloc o).alloc p).cell? ⟨b, 1, none⟩ = some (.slice none 0 0)) → (∀ o p, ((x.alloc o).alloc p).frozen? ⟨b, 0, none⟩ = false) → (∀ o p, ((x.alloc o).alloc p).frozen? ⟨b, 1, none⟩ = false) →
      b ≠ x.heap.size → x.heap.size ≠ b → b ≠ x.heap.size + 1 → x.heap.size + 1 ≠ b → G) : G := by
  have hb := World.block_lt_of_cell? _ _ h0
  have hz : Zero X b := ⟨h0, h1, f0, f1⟩
  have z0 := hz.since h
  have z1 := fun o => z0.since (since_alloc x o)
  have z2 := fun o p => (z1 o).since (since_alloc (x.alloc o) p)
  have hb2 : b < x.heap.size := Nat.lt_of_lt_of_le hb h.size
  exact k z0.1 z0.2.1 z0.2.2.1 z0.2.2.2 (fun o => (z1 o).1) (fun o => (z1 o).2.1) (fun o => (z1 o).2.2.1) (fun o => (z1 o).2.2.2)
    (fun o p => (z2 o p).1) (fun o p => (z2 o p).2.1) (fun o p => (z2 o p).2.2.1) (fun o p => (z2 o p).2.2.2) (by omega) (by omega) (by omega) (by omega)
theorem row_put {w : World} {p : Addr} {z u : Value} {v : Value} {ds : List Nat} (h : Row w v ds) (hz : w.cell? p = some z) (hn : ∀ n, z ≠ .int .u32 n) : Row (w.setCell p u) v ds := by
  obtain ⟨h1, A, c, h2, h3, h6⟩ := h
  refine ⟨h1, A, c, h2, fun hl => ?_, h6⟩
  obtain ⟨g, o, h4, h5⟩ := h3 hl
  refine ⟨g, o, h4, fun i hi => ?_⟩
  have hc := h5 i hi
  have hne : (⟨g, o + i, none⟩ : Addr) ≠ p := by
    rintro rfl
    rw [hz] at hc
    injection hc with hc
    exact hn _ hc
  rw [World.cell?_setCell_other (h := hne.symm)]
  exact hc
theorem row_put0 {w : World} {p : Addr} {u : Value} {v : Value} {ds : List Nat} (h : Row w v ds) (hz : w.cell? p = some (.bool false)) : Row (w.setCell p u) v ds := row_put h hz (fun n h => by cases h)
theorem row_put1 {w : World} {p : Addr} {u : Value} {v : Value} {ds : List Nat} (h : Row w v ds) (hz : w.cell? p = some (.slice none 0 0)) : Row (w.setCell p u) v ds := row_put h hz (fun n h => by cases h)
/-- a cell that is there stays -/
theorem stays {X : World} {b o : Nat} {z : Value} (h : X.cell? ⟨b, o, none⟩ = some z) {W : World} (k : Since X W) : W.cell? ⟨b, o, none⟩ = some z := (k.cell _ (World.block_lt_of_cell? _ _ h)).trans h
end Go.Proofs.YtbkkalmdjcpgoaaDoor.Law03
namespace Go.Proofs.YtbkkalmdjcpgoaaDoor.Ref03
open Go.RowKit
open Go.Proofs.YtbkkalmdjcpgoaaDoor.Dig
theorem div_abs {a b : Bool} {X Y : Nat} (hY : 0 < Y) : ((sgn a X).fdiv (sgn b Y)).natAbs ≤ X + Y ∧ ((sgn a X).fmod (sgn b Y)).natAbs ≤ X + Y := by
  have h1 := Nat.div_le_self X Y
  have h2 := Nat.mod_lt X hY
  cases hs : (a == b)
  · by_cases hr : X % Y = 0
    · obtain ⟨e1, e2⟩ := floor_diff0 (a := a) (b := b) (X := X) hY hs hr
      rw [e1, e2]; generalize X / Y = q at *; omega
    · obtain ⟨e1, e2⟩ := floor_diff1 (a := a) (b := b) (X := X) hY hs hr
      rw [e1, e2]; generalize X / Y = q at *; generalize X % Y = r at *; unfold sgn; split <;> omega
  · have hab : a = b := by simpa using hs
    subst hab
    obtain ⟨e1, e2⟩ := floor_same (b := a) (X := X) hY
    rw [e1, e2]; generalize X / Y = q at *; generalize X % Y = r at *; unfold sgn; split <;> omega
theorem divZ_len (na : Bool) (xs : List Nat) (nb : Bool) (ys : List Nat) (dx : IsDig xs) (dy : IsDig ys) (lx : xs.length ≤ 1000) (ly : ys.length ≤ 1000) : (divZ na xs nb ys).1.1.2.length ≤ 1001 ∧ (divZ na xs nb ys).1.2.2.length ≤ 1001 := by
  unfold divZ
  split
  · rename_i hg
    have hY := num_pos (right_norm (sright_right hg.1.2)).2 hg.2
    obtain ⟨k, hk⟩ : ∃ k, k = 1000 := ⟨_, rfl⟩
    rw [← hk] at lx ly
    have h1 := Nat.lt_of_lt_of_le (num_lt dx) (Nat.pow_le_pow_right (n := 4294967296) (by omega) lx)
    have h2 := Nat.lt_of_lt_of_le (num_lt dy) (Nat.pow_le_pow_right (n := 4294967296) (by omega) ly)
    obtain ⟨h3, h4⟩ := div_abs (a := na) (b := nb) (X := num xs) hY
    exact ⟨Nat.le_trans (digs_len_le (k := k + 1) (Nat.lt_of_le_of_lt h3 (sum_lt h1 h2))) (by omega), Nat.le_trans (digs_len_le (k := k + 1) (Nat.lt_of_le_of_lt h4 (sum_lt h1 h2))) (by omega)⟩
  · exact ⟨Nat.zero_le _, Nat.zero_le _⟩
theorem gcdZ_len (na : Bool) (xs : List Nat) (nb : Bool) (ys : List Nat) (dx : IsDig xs) (dy : IsDig ys) (lx : xs.length ≤ 1000) (ly : ys.length ≤ 1000) : (gcdZ na xs nb ys).1.2.length ≤ 1000 := by
  unfold gcdZ
  split
  · show (digs (Nat.gcd (num xs) (num ys))).length ≤ 1000
    by_cases h0 : num xs = 0
    · rw [h0, Nat.gcd_zero_left]; exact Nat.le_trans (digs_len_num dy) ly
    · exact Nat.le_trans (digs_len_mono (Nat.gcd_le_left _ (by omega))) (Nat.le_trans (digs_len_num dx) lx)
  · exact Nat.zero_le _
end Go.Proofs.YtbkkalmdjcpgoaaDoor.Ref03
namespace Go.Proofs.YtbkkalmdjcpgoaaDoor.Law03
open Go.RowKit
theorem Zero.lt {W : World} {b : Nat} (h : Zero W b) : b < W.heap.size := World.block_lt_of_cell? _ _ h.1
theorem Zero.fresh (w : World) (t : TypeId) : Zero (w.alloc (.cells #[.bool false, .slice none 0 0] t)) w.heap.size := by
  obtain ⟨h0, h1, h2, h3⟩ := keep2 (Since.refl (w.alloc (.cells #[.bool false, .slice none 0 0] t)))
  exact ⟨h0, h1, h2, h3⟩
end Go.Proofs.YtbkkalmdjcpgoaaDoor.Law03
