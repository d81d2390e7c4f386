/- What bits.Sub32 and bits.Div32 give back. -/
import Derived.Test.YtmnankcllblgjaaN2C
namespace Go.Proofs.Ytmnankcllblgjaa.Bits
open Go.RowKit
set_option linter.unusedVariables false
open Go.Proofs.Ytmnankcllblgjaa.Dig

theorem sub_bit {x y b : Nat} (hx : x < 4294967296) (hy : y < 4294967296) (hb : b ≤ 1) :
    bits .or .u32 (bits .and .u32 (bits .xor .u32 IntKind.u32.max (x : Int)) (y : Int)) (bits .and .u32 (bits .xor .u32 IntKind.u32.max (bits .xor .u32 (x : Int) (y : Int))) (((x : Int) - (y : Int) - (b : Int)) % 4294967296)) / 2147483648 =
      ((1 - (4294967296 + x - y - b) / 4294967296 : Nat) : Int) := by
  obtain ⟨d, hd⟩ : ∃ d, d = (4294967296 + x - y - b) % 4294967296 := ⟨_, rfl⟩
  have ed : ((x : Int) - (y : Int) - (b : Int)) % 4294967296 = (d : Int) := by omega
  have em : IntKind.u32.max = ((4294967295 : Nat) : Int) := rfl
  have hd1 : d < 4294967296 := by omega
  have a1 : x ^^^ y < 4294967296 := Nat.xor_lt_two_pow (n := 32) hx hy
  have a2 : 4294967295 ^^^ x < 4294967296 := Nat.xor_lt_two_pow (n := 32) (by omega) hx
  have a3 : 4294967295 ^^^ (x ^^^ y) < 4294967296 := Nat.xor_lt_two_pow (n := 32) (by omega) a1
  have a4 : (4294967295 ^^^ x) &&& y < 4294967296 := Nat.and_lt_two_pow (n := 32) _ hy
  have a5 : (4294967295 ^^^ (x ^^^ y)) &&& d < 4294967296 := Nat.and_lt_two_pow (n := 32) _ hd1
  rw [ed, em, u32_xor_nat x y hx hy, u32_xor_nat _ x (by omega) hx, u32_xor_nat _ (x ^^^ y) (by omega) a1, u32_and_nat _ y a2 hy, u32_and_nat _ d a3 hd1, u32_or_nat _ _ a4 a5]
  obtain ⟨N, hN⟩ : ∃ N, N = (4294967295 ^^^ x) &&& y ||| (4294967295 ^^^ (x ^^^ y)) &&& d := ⟨_, rfl⟩
  rw [← hN]
  have e : N / 2147483648 = N >>> 31 := by rw [Nat.shiftRight_eq_div_pow]
  have e2 : N >>> 31 = (1 ^^^ x >>> 31) &&& y >>> 31 ||| (1 ^^^ (x >>> 31 ^^^ y >>> 31)) &&& d >>> 31 := by
    rw [hN]
    simp only [Nat.shiftRight_or_distrib, Nat.shiftRight_and_distrib, Nat.shiftRight_xor_distrib]
    rfl
  have x1 : x >>> 31 = x / 2147483648 := by rw [Nat.shiftRight_eq_div_pow]
  have y1 : y >>> 31 = y / 2147483648 := by rw [Nat.shiftRight_eq_div_pow]
  have d1 : d >>> 31 = d / 2147483648 := by rw [Nat.shiftRight_eq_div_pow]
  rw [e2] at e
  generalize x >>> 31 = xt at *
  generalize y >>> 31 = yt at *
  generalize d >>> 31 = dt at *
  have hxt : xt = 0 ∨ xt = 1 := by omega
  have hyt : yt = 0 ∨ yt = 1 := by omega
  have hdt : dt = 0 ∨ dt = 1 := by omega
  clear hN e2
  rcases hxt with rfl | rfl <;> rcases hyt with rfl | rfl <;> rcases hdt with rfl | rfl <;> simp at e <;> omega
theorem sub32 (x y b s t : Nat) (w : World) (hx : x < 4294967296) (hy : y < 4294967296) (hb : b ≤ 1) (hs : s = (4294967296 + x - y - b) % 4294967296) (ht : t = 1 - (4294967296 + x - y - b) / 4294967296) :
    Calls Try.prog 80 #[.int .u32 (x : Int), .int .u32 (y : Int), .int .u32 (b : Int)] w (Two s t w) := by
  have H := Lib.hid (And.intro hs ht)
  clear hs ht
  go_enter Try.func80, Try.ntmps80
  go_wp2
  go_ret2
  have h := H.out
  exact ⟨ret_two (by omega) (by rw [sub_bit hx hy hb, h.2]), rfl⟩
theorem sub32m (x b s t : Nat) (w : World) (hx : x < 4294967296) (hb : b ≤ 1) (hs : s = (4294967296 + x - b) % 4294967296) (ht : t = 1 - (4294967296 + x - b) / 4294967296) :
    Calls Try.prog 80 #[.int .u32 (x : Int), .int .u32 0, .int .u32 (b : Int)] w (Two s t w) := sub32 x 0 b s t w hx (by omega) hb (by omega) (by omega)
theorem div32 (x y d q r : Nat) (w : World) (hy : y < 4294967296) (hd : d < 4294967296) (hxd : x < d) (hq : q = (x * 4294967296 + y) / d) (hr : r = (x * 4294967296 + y) % d) :
    Calls Try.prog 83 #[.int .u32 (x : Int), .int .u32 (y : Int), .int .u32 (d : Int)] w (fun e w' => e = .returned (.tuple #[.int .u32 (q : Int), .int .u32 (r : Int)]) ∧ ∃ n, w' = w.drewN n) := by
  have hq1 : q < 4294967296 := by
    rw [hq, Nat.div_lt_iff_lt_mul (by omega)]
    have : (x + 1) * 4294967296 ≤ d * 4294967296 := Nat.mul_le_mul_right _ hxd
    omega
  have hr1 : r < d := by rw [hr]; exact Nat.mod_lt _ (by omega)
  obtain ⟨n, hn⟩ : ∃ n, n = x * 4294967296 + y := ⟨_, rfl⟩
  rw [← hn] at hq hr
  have H := Lib.hid (And.intro hq hr)
  have hc : bits .or .u64 ((x : Int) * 4294967296) (y : Int) = (n : Int) := by
    have := u64_or_nat (x * 4294967296) y (by omega) (by omega)
    rw [nat_join 32 _ _ (by omega) (by omega), ← hn] at this
    rw [← this]; simp
  have hn2 : n < 18446744073709551616 := by omega
  have hdd : decide ((d : Int) ≤ (x : Int)) = false := by simp; omega
  clear hq hr hn
  go_enter Try.func83, Try.ntmps83
  go_wp2
  go_quiet (fail)
  go_wp2
  go_ret2
  have h := H.out
  have e1 : (n : Int) / (d : Int) = (q : Int) := by rw [h.1]; simp
  have e2 : (n : Int) % (d : Int) = (r : Int) := by rw [h.2]; simp
  refine ⟨ret_two ?_ ?_, ⟨_, rfl⟩⟩
  · rw [e1, IntWalk.u64_in _ (by omega)]; omega
  · rw [e2]; omega
end Go.Proofs.Ytmnankcllblgjaa.Bits
