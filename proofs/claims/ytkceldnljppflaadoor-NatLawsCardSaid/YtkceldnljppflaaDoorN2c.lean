/- What Of of package nat gives back. -/
import Derived.Test.YtkceldnljppflaaDoorN2b
namespace Go.Proofs.YtkceldnljppflaaDoor.Nat02
open Go.RowKit
set_option linter.unusedVariables false
open Go.Proofs.YtkceldnljppflaaDoor.Dig

theorem bitLen_ge (x k : Nat) (hx : x < 2 ^ 64) (hk : k ≤ 64) (h : 2 ^ k ≤ x) : k < Lib.bitLen x := by
  rw [Lib.bitLen_shift k x h hx]
  have : x / 2 ^ k ≠ 0 := by
    have := Nat.div_pos h (Nat.pow_pos (by omega))
    omega
  rw [Lib.bitLen_half _ this (Nat.lt_of_le_of_lt (Nat.div_le_self _ _) hx)]
  omega
theorem bits_digits (u : Nat) (hu : u < 18446744073709551616) : (Lib.bitLen u + 31) / 32 = (digs u).length ∧ (digs u).length ≤ 2 ∧ Lib.bitLen u ≤ 64 := by
  have h64 := Lib.bitLen_le u 64 (by omega) hu
  by_cases h0 : u = 0
  · subst h0; exact ⟨by decide, by simp [digs_zero], h64⟩
  · have g0 := bitLen_ge u 0 hu (by omega) (by omega)
    by_cases h1 : u < 4294967296
    · have := Lib.bitLen_le u 32 (by omega) h1
      have e : (digs u).length = 1 := by rw [digs_pos h0, Nat.div_eq_of_lt h1, digs_zero]; rfl
      omega
    · have g1 := bitLen_ge u 32 hu (by omega) (by omega)
      have e : (digs u).length = 2 := by
        rw [digs_pos h0, digs_pos (by omega), show u / 4294967296 / 4294967296 = 0 by omega, digs_zero]; rfl
      omega
theorem digs_at (u : Nat) (hu : u < 18446744073709551616) : (0 < (digs u).length → (digs u).getD 0 0 = u % 4294967296) ∧ (1 < (digs u).length → (digs u).getD 1 0 = u / 4294967296 % 4294967296) := by
  refine ⟨fun h => ?_, fun h => ?_⟩
  · have h0 : u ≠ 0 := by rintro rfl; simp [digs_zero] at h
    rw [digs_pos h0]; rfl
  · have h0 : u ≠ 0 := by rintro rfl; simp [digs_zero] at h
    rw [digs_pos h0] at h ⊢
    have h1 : u / 4294967296 ≠ 0 := by intro e; rw [e, digs_zero] at h; simp at h
    rw [digs_pos h1]; rfl

set_option maxRecDepth 100000 in
set_option maxHeartbeats 800000 in
theorem of_new (u : Nat) (w : World) (hu : u < 18446744073709551616) : Calls Tryd.prog 20 #[.int .u64 (u : Int)] w (RetNew (digs u) w) := by
  obtain ⟨hb1, hb2, hb3⟩ := bits_digits u hu
  obtain ⟨hd0, hd1⟩ := digs_at u hu
  have hD := isDig_digs u
  obtain ⟨B, hB⟩ : ∃ b, b = Lib.bitLen u := ⟨_, rfl⟩
  obtain ⟨ds, hds⟩ : ∃ b, b = digs u := ⟨_, rfl⟩
  rw [← hB] at hb1 hb3
  rw [← hds] at hb1 hb2 hd0 hd1 hD ⊢
  have HL := Lib.hid fun W => Bits.len64 (u : Int) W (by omega) (by omega)
  simp only [Int.toNat_natCast, ← hB] at HL
  obtain ⟨n, hn⟩ : ∃ b, b = ds.length := ⟨_, rfl⟩
  rw [← hn] at hb1 hb2 hd0 hd1
  have hq : ((B : Int) + 32 - 1) / 32 = (n : Int) := by omega
  have hm := make_digits n (by omega)
  have HD := Lib.hid (And.intro hd0 (And.intro hd1 (And.intro hD hn)))
  clear hd0 hd1 hB hds hb1 hD hn
  go_enter Tryd.func20, Tryd.ntmps20
  go_wp2_with (go_at_call 38; (with_reducible refine (HL.out _).mono ?_); rintro e w1 ⟨rfl, rfl⟩)
  go_loopw [13] (fun i wr => ∃ k : Nat, k ≤ n ∧ i = .int .i64 k ∧ Hid (Blk wr w1.heap.size (splice (List.replicate n 0) 0 (ds.take k))) ∧ Since w1 wr) (fun i _ => n - (intOf i).toNat)
  case atStart => exact ⟨0, by omega, rfl, by rw [List.take_zero, splice_nil]; exact Blk.made w1 n, since_made w1 _ _⟩
  case round =>
    obtain ⟨k, hk, rfl, hb, hw⟩ := hrel
    by_cases hlt : k < n
    · have hj : k < ds.length := by have := HD.out.2.2.2; omega
      have hlen : (splice (List.replicate n 0) 0 (ds.take k)).length = n := by rw [splice_len (by simp; omega)]; simp
      have g1 := hb.out.cell (i := k) (by omega)
      have g2 := hb.out.frozen k
      have hset := hb.out.set (i := k) (d := ds.getD k 0) (by omega) (getD_lt HD.out.2.2.1 k)
      have e1 := splice_set (ds := List.replicate n 0) (o := 0) (d := ds.getD k 0) (outs := ds.take k) (by simp; omega)
      rw [List.length_take, Nat.min_eq_left (by omega), Nat.zero_add, ← take_more hj] at e1
      rw [e1] at hset
      obtain ⟨z, hz⟩ : ∃ d, d = (splice (List.replicate n 0) 0 (ds.take k)).getD k 0 := ⟨_, rfl⟩
      rw [← hz] at g1
      clear hz e1 hlen hj
      rcases (show k = 0 ∨ k = 1 by omega) with rfl | rfl
      · rw [HD.out.1 hlt] at hset
        have HS := Lib.hid hset
        clear hset
        go_wp2
        go_roundw
        case rel => exact ⟨1, by omega, rfl, HS.out, hw.set (Nat.le_refl _) _⟩
        case measure => simp [intOf]; omega
      · rw [HD.out.2.1 hlt, Nat.mod_eq_of_lt (by omega : u / 4294967296 < 4294967296)] at hset
        have HS := Lib.hid hset
        clear hset
        go_wp2
        go_roundw
        case rel => exact ⟨2, by omega, rfl, HS.out, hw.set (Nat.le_refl _) _⟩
        case measure => simp [intOf]; omega
    · obtain rfl : k = n := by omega
      have e : splice (List.replicate k 0) 0 (ds.take k) = ds := by
        rw [List.take_of_length_le (by have := HD.out.2.2.2; omega)]
        exact splice_zero_end HD.out.2.2.2.symm
      rw [e] at hb
      clear e
      go_wp2
      go_ret
      exact ⟨w1.heap.size, by rw [← HD.out.2.2.2]; rfl, Nat.le_refl _, hb.out, hw⟩
theorem of_any (u : Nat) (w : World) (hu : u < 18446744073709551616) : Calls Tryd.prog 20 #[.int .u64 (u : Int)] w (RetRow (digs u) w) :=
  (of_new u w hu).mono fun _ _ h => h.row
end Go.Proofs.YtkceldnljppflaaDoor.Nat02
