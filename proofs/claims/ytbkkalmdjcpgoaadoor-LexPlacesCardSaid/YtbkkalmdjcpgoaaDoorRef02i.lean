/- What the document's own Product gives back: the digits of the product. -/
import Derived.Test.YtbkkalmdjcpgoaaDoorRef02e
import Derived.Test.YtbkkalmdjcpgoaaDoorRef02g
import Derived.Test.YtbkkalmdjcpgoaaDoorRef02h
namespace Go.Proofs.YtbkkalmdjcpgoaaDoor.Ref02
open Go.RowKit
set_option linter.unusedVariables false
open Go.Proofs.YtbkkalmdjcpgoaaDoor.Dig


theorem num_take_len {ys : List Nat} (hy : IsDig ys) (k : Nat) : num (ys.take k) < 4294967296 ^ k := by
  have h := num_lt (isDig_take hy k)
  exact Nat.lt_of_lt_of_le h (Nat.pow_le_pow_right (by omega) (List.length_take_le _ _))
theorem part_len {xs ys : List Nat} (hx : IsDig xs) (hy : IsDig ys) (k : Nat) : (digs (num xs * num (ys.take k))).length ≤ xs.length + k := by
  apply digs_len_le
  rw [Nat.pow_add]
  have h1 := num_lt hx
  have h2 := num_take_len hy k
  rcases Nat.eq_zero_or_pos (num (ys.take k)) with h | h
  · rw [h, Nat.mul_zero]; exact Nat.mul_pos (Nat.pow_pos (by omega)) (Nat.pow_pos (by omega))
  · exact Nat.lt_of_lt_of_le (Nat.mul_lt_mul_of_pos_right h1 h) (Nat.mul_le_mul_left _ (Nat.le_of_lt h2))
theorem scal_len {xs : List Nat} (hx : IsDig xs) {d : Nat} (hd : d < 4294967296) (k : Nat) : (digs (4294967296 ^ k * (num xs * d))).length ≤ k + (xs.length + 1) := by
  apply digs_len_le
  rw [Nat.pow_add, Nat.pow_succ]
  have h1 := num_lt hx
  refine Nat.mul_lt_mul_of_pos_left ?_ (Nat.pow_pos (by omega))
  rcases Nat.eq_zero_or_pos d with h | h
  · rw [h, Nat.mul_zero]; exact Nat.mul_pos (Nat.pow_pos (by omega)) (by omega)
  · exact Nat.lt_of_lt_of_le (Nat.mul_lt_mul_of_pos_right h1 h) (Nat.mul_le_mul_left _ (Nat.le_of_lt hd))

set_option maxRecDepth 100000 in
set_option maxHeartbeats 1000000 in
theorem product_any (va vb : Value) (xs ys : List Nat) (w : World) (hx : Row w va xs) (hy : Row w vb ys) (lx : xs.length ≤ 10000) (ly : ys.length ≤ 10000) :
    Calls Tryd.prog 54 #[va, vb] w (RetRow (digs (num xs * num ys)) w) := by
  have HX := Lib.hid hx
  have LX := Lib.hid (show xs.length ≤ 10000 by omega)
  obtain ⟨dx, A, cA, rfl, _, -⟩ := hx
  obtain ⟨dy, B, cB, rfl, hcy, -⟩ := hy
  have HD := Lib.hid (And.intro dx dy)
  have HC := Lib.hid hcy
  clear dx dy hcy lx
  obtain ⟨n1, hn1⟩ : ∃ n, n = xs.length := ⟨_, rfl⟩
  obtain ⟨m, hm⟩ : ∃ n, n = ys.length := ⟨_, rfl⟩
  rw [← hm] at ly ⊢
  rw [← hn1] at HX ⊢
  have HN := Lib.hid (And.intro hn1 hm)
  clear hn1 hm
  go_enter Tryd.func54, Tryd.ntmps54
  go_wp2
  go_loopw [5, 6] (fun s i wr => ∃ k : Nat, k ≤ m ∧ i = .int .i64 k ∧ Row wr s (digs (num xs * num (ys.take k))) ∧ Since w wr) (fun _ i _ => m - (intOf i).toNat)
  case atStart => exact ⟨0, by omega, rfl, by rw [List.take_zero, num, Nat.mul_zero]; exact Row.nil _, Since.refl _⟩
  case round =>
    obtain ⟨k, hk, rfl, hrow, hw⟩ := hrel
    by_cases hlt : k < m
    · have hkl : k < ys.length := by have := HN.out.2; omega
      obtain ⟨b, o, rfl, hcc⟩ := HC.out (by omega)
      have hcell := (Below.cell hw (World.block_lt_of_cell? _ _ (hcc k hkl))).trans (hcc k hkl)
      have e := num_take_succ ys k
      obtain ⟨y, hy⟩ : ∃ y, y = ys.getD k 0 := ⟨_, rfl⟩
      have hyb : y < 4294967296 := by rw [hy]; exact getD_lt HD.out.2 k
      rw [← hy] at hcell e
      have l1 := Lib.hid (part_len HD.out.1 HD.out.2 k)
      have l2 := Lib.hid (scal_len HD.out.1 hyb k)
      have E := Lib.hid e
      have HR := Lib.hid hrow
      clear hcc hy e hrow hkl
      go_wp2_with (first
        | (go_at_call 69; (with_reducible refine (scaled_any (.slice A n1 cA) xs y k _ (HX.out.since hw) (by have := LX.out; omega) hyb (by omega)).mono ?_); rintro e w1 ⟨v1, rfl, hr1, hs1⟩)
        | (go_at_call 51; (with_reducible refine (plus_any _ v1 (digs (num xs * num (ys.take k))) (digs (4294967296 ^ k * (num xs * y))) w1 (HR.out.since hs1) hr1 (by have := l1.out; have := LX.out; omega) (by have := l2.out; have := LX.out; omega)).mono ?_); rintro e w2 ⟨v2, rfl, hr2, hs2⟩; clear hr1))
      go_roundw
      case rel =>
        refine ⟨k + 1, by omega, by go_num, ?_, (hw.trans ‹Since wr _›).trans ‹_›⟩
        rw [E.out, Nat.mul_add, show num xs * (4294967296 ^ k * y) = 4294967296 ^ k * (num xs * y) from Nat.mul_left_comm _ _ _]
        simpa only [num_digs] using ‹Row _ _ (digs (num (digs _) + num (digs _)))›
      case measure => simp [intOf]; omega
    · obtain rfl : k = m := by omega
      go_wp2
      go_ret
      refine ⟨_, rfl, ?_, hw⟩
      have := HN.out.2
      rw [List.take_of_length_le (by omega)] at hrow
      exact hrow
end Go.Proofs.YtbkkalmdjcpgoaaDoor.Ref02
