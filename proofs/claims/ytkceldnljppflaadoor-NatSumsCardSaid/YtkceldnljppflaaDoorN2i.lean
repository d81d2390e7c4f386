/- What shiftUp and shiftDown of package nat give back. -/
import Derived.Test.YtkceldnljppflaaDoorN2c
import Derived.RegionTactic
import Derived.BigRegion
import Derived.IntWalk
import Derived.Deep.RegionWith
namespace Go.Proofs.YtkceldnljppflaaDoor.Nat02
open Go.RowKit
set_option linter.unusedVariables false
open Go.Proofs.YtkceldnljppflaaDoor.Dig

theorem splice_again {ds outs : List Nat} {o c d : Nat} (h : o + outs.length < ds.length) : (splice ds o (outs ++ [c])).set (o + outs.length) d = splice ds o (outs ++ [d]) := by
  rw [← splice_set h, List.set_set, splice_set h]
theorem join32 {a b i : Nat} (hb : b < 4294967296) (hi : i ≤ 32) (hx : a % 2 ^ i = 0) (ha : a < 4294967296) (hy : b < 2 ^ i) : bits .or .u32 (b : Int) (a : Int) = ((b + a : Nat) : Int) := by
  rw [u32_or_nat b a hb ha, Nat.or_comm, nat_join i a b hx hy, Nat.add_comm]

theorem or_cast {t x s r B : Nat} (h : x * 2 ^ s % 4294967296 = B) (hb : bits .or .u32 (t : Int) (B : Int) = (r : Int)) : bits .or .u32 (t : Int) ((x : Int) * 2 ^ s % 4294967296) = (r : Int) := by
  rw [← hb, ← h]; simp
theorem shr_cast {x s r : Nat} (h : x / 2 ^ s = r) : (x : Int) / 2 ^ s = (r : Int) := by
  rw [← h]; simp

/-- a number shifted up, in a new block -/
def RetUp (xs : List Nat) (s : Nat) (w : World) (e : Ending) (w' : World) : Prop :=
  ∃ (g : Nat) (rs : List Nat), e = .returned (.slice (some ⟨g, 0, none⟩) (xs.length + 1) (xs.length + 1)) ∧ w.heap.size ≤ g ∧ Blk w' g rs ∧ rs.length = xs.length + 1 ∧ num rs = num xs * 2 ^ s ∧ Since w w'

set_option maxRecDepth 100000 in
set_option maxHeartbeats 4000000 in
theorem shiftUp_any (v : Value) (xs : List Nat) (s : Nat) (w : World) (h : Row w v xs) (hl : xs.length ≤ 10000) (hs : s ≤ 31) :
    Calls Tryd.prog 65 #[v, .int .u64 (s : Int)] w (RetUp xs s w) := by
  have H := Lib.hid h
  obtain ⟨hd, A, c, rfl, hc, -⟩ := h
  have HC := Lib.hid hc
  have HD := Lib.hid hd
  obtain ⟨n, hn⟩ : ∃ n, n = xs.length := ⟨_, rfl⟩
  have hm := make_digits (n + 1) (by omega)
  rw [← hn] at hl ⊢
  have HN := Lib.hid hn
  have hm' : ∀ W : World, (Instr.makeSlice 22 (.int .i64 ((n : Int) + 1)) (.int .i64 ((n : Int) + 1))).run Tryd.prog W = .ok (.slice (some ⟨W.heap.size, 0, none⟩) (n + 1) (n + 1)) (W.alloc (.cells (madeCells #[.int .u32 0] (n + 1)) 55)) := fun W => hm W
  clear hc hd hn hm
  go_enter Tryd.func65, Tryd.ntmps65
  go_wp2
  go_loopw [13] (fun i wr => ∃ (k t : Nat) (outs : List Nat), k ≤ n ∧ i = .int .i64 k ∧ Hid (outs.length = k ∧ IsDig outs ∧ t < 2 ^ s ∧ num outs + 4294967296 ^ k * t = num (xs.take k) * 2 ^ s) ∧ Hid (Blk wr w.heap.size (splice (List.replicate (n + 1) 0) 0 (outs ++ [t]))) ∧ Since w wr) (fun i _ => n - (intOf i).toNat)
  case atStart => exact ⟨0, 0, [], by omega, rfl, ⟨rfl, isDig_nil, Nat.pow_pos (by omega), by simp [num]⟩, by
    have e : splice (List.replicate (n + 1) 0) 0 ([] ++ [0]) = List.replicate (n + 1) 0 := by simp [splice, List.replicate_succ]
    rw [e]
    exact Blk.made w (n + 1), since_made w _ _⟩
  case round =>
    obtain ⟨k, t, outs, hk, rfl, hv, hb, hw⟩ := hrel
    by_cases hlt : k < n
    · have hN := HN.out
      have hj : k < xs.length := by omega
      obtain ⟨b, o, rfl, hcc⟩ := HC.out (by omega)
      have hcell := (Below.cell hw (World.block_lt_of_cell? _ _ (hcc k hj))).trans (hcc k hj)
      have hb1 : b ≠ w.heap.size := by have := World.block_lt_of_cell? _ _ (hcc k hj); simp at this; omega
      have hx1 := getD_lt HD.out k
      obtain ⟨s1, s2, s3, s4⟩ := shiftUp_step hs hx1 hv.out.1 hv.out.2.2.1 hv.out.2.2.2
      have hlen : (splice (List.replicate (n + 1) 0) 0 (outs ++ [t])).length = n + 1 := by rw [splice_len (by simp; have := hv.out.1; omega)]; simp
      have g1 := hb.out.cell (i := k) (by omega)
      have g2 := hb.out.frozen k
      have e0 : (splice (List.replicate (n + 1) 0) 0 (outs ++ [t])).getD k 0 = t := by
        have := splice_getD_mid (ds := List.replicate (n + 1) 0) (o := 0) (i := k) (outs := outs ++ [t]) (by simp; have := hv.out.1; omega) (by omega)
        rw [Nat.zero_add] at this
        rw [this, ← hv.out.1]; simp [List.getD]
      rw [e0] at g1
      obtain ⟨x, hx⟩ : ∃ d, d = xs.getD k 0 := ⟨_, rfl⟩
      rw [← hx] at hcell hx1 s1 s2 s3 s4
      obtain ⟨lo, hlo⟩ : ∃ l, l = t + x * 2 ^ s % 4294967296 := ⟨_, rfl⟩
      obtain ⟨hi, hhi⟩ : ∃ l, l = x / 2 ^ (32 - s) := ⟨_, rfl⟩
      rw [← hlo] at s1 s3
      rw [← hhi] at s1 s2
      have g3 := hb.out.cell (i := k + 1) (by omega)
      have g4 := hb.out.frozen (k + 1)
      obtain ⟨z, hz⟩ : ∃ d, d = (splice (List.replicate (n + 1) 0) 0 (outs ++ [t])).getD (k + 1) 0 := ⟨_, rfl⟩
      rw [← hz] at g3
      have hA : ∀ u, (wr.setCell ⟨w.heap.size, k, none⟩ u).cell? ⟨b, o + k, none⟩ = some (.int .u32 (x : Int)) := fun u => cell_far hcell hb1 u
      have hB : ∀ u, (wr.setCell ⟨w.heap.size, k, none⟩ u).cell? ⟨w.heap.size, k + 1, none⟩ = some (.int .u32 (z : Int)) := fun u => (World.cell?_setCell_other wr _ _ u (by simp)).trans g3
      clear hz
      have i1 : (0 : Int) ≤ (k : Int) := by omega
      have i2 : (k : Int) < (n : Int) := by omega
      have i3 : (k : Int) < (n : Int) + 1 := by omega
      have hE1 : bits .or .u32 (t : Int) ((x : Int) * 2 ^ s % 4294967296) = (lo : Int) := or_cast rfl (by
        rw [hlo]
        exact join32 (i := s) (by have := Nat.pow_le_pow_right (n := 2) (by omega) (show s ≤ 31 by omega); have := hv.out.2.2.1; omega) (by omega) (by rw [s4]; exact Nat.mul_mod_right _ _) (Nat.mod_lt _ (by omega)) hv.out.2.2.1)
      have hE2 : (x : Int) / 2 ^ (32 - s) = (hi : Int) := shr_cast hhi.symm
      have e9 : num (xs.take (k + 1)) * 2 ^ s = num (xs.take (k + 1)) * 2 ^ s := rfl
      have hst1 := hb.out.set (i := k) (d := lo) (by omega) s3
      have e1 := splice_again (ds := List.replicate (n + 1) 0) (o := 0) (c := t) (d := lo) (outs := outs) (by simp; have := hv.out.1; omega)
      rw [hv.out.1, Nat.zero_add] at e1
      rw [e1] at hst1
      have hhi1 : hi < 4294967296 := by
        have := Nat.pow_le_pow_right (n := 2) (by omega) (show s ≤ 31 by omega); omega
      have hst2 := hst1.set (i := k + 1) (d := hi) (by rw [splice_len (by simp; have := hv.out.1; omega)]; simp; omega) hhi1
      have e2 := splice_set (ds := List.replicate (n + 1) 0) (o := 0) (d := hi) (outs := outs ++ [lo]) (by simp; have := hv.out.1; omega)
      rw [List.length_append, hv.out.1, Nat.zero_add] at e2
      have e3 : (splice (List.replicate (n + 1) 0) 0 (outs ++ [lo])).set (k + 1) hi = splice (List.replicate (n + 1) 0) 0 (outs ++ [lo] ++ [hi]) := e2
      rw [e3] at hst2
      have HS := Lib.hid (And.intro s1 (And.intro s2 (And.intro s3 hst2)))
      clear hcc hx s1 s2 s3 s4 hlen e0 hj hN hlo hhi e9 hst1 e1 e2 e3 hst2 hhi1
      go_wp2
      go_region_with (fail)
      all_goals
        go_wp2
        go_roundw
        case rel => exact ⟨k + 1, hi, outs ++ [lo], by omega, by go_num, ⟨by rw [List.length_append, hv.out.1]; rfl, isDig_snoc hv.out.2.1 HS.out.2.2.1, HS.out.2.1, HS.out.1⟩, HS.out.2.2.2, Since.drew (Since.set (Since.set hw (Nat.le_refl _) _) (Nat.le_refl _) _)⟩
        case measure => simp [intOf]; omega
    · obtain rfl : k = n := by omega
      have hN := HN.out
      have h3 := hv.out.2.2.2
      rw [List.take_of_length_le (by omega : xs.length ≤ k)] at h3
      have hp := Nat.pow_le_pow_right (n := 2) (by omega) (show s ≤ 31 by omega)
      have e := splice_zero_end (n := k + 1) (ds := outs ++ [t]) (by simp; exact hv.out.1)
      have hb2 := hb.out
      rw [e] at hb2
      have h4 := num_snoc outs t
      rw [hv.out.1, h3] at h4
      have HS := Lib.hid (And.intro hb2 (And.intro h4 hN))
      clear hN h3 hp e hb2 h4
      go_wp2
      go_ret
      exact ⟨w.heap.size, outs ++ [t], by rw [← HS.out.2.2]; rfl, Nat.le_refl _, HS.out.1, by rw [← HS.out.2.2]; simp; exact hv.out.1, HS.out.2.1, hw⟩

set_option maxRecDepth 100000 in
set_option maxHeartbeats 4000000 in
theorem shiftDown_any (g : Nat) (ds : List Nat) (s : Nat) (w : World) (h : Blk w g ds) (hl : ds.length ≤ 10000) (hs : s ≤ 31) :
    Calls Tryd.prog 67 #[.slice (some ⟨g, 0, none⟩) ds.length ds.length, .int .u64 (s : Int)] w fun e w' => e = .returned (.tuple #[]) ∧ ∃ rs, rs.length = ds.length ∧ num rs = num ds / 2 ^ s ∧ Blk w' g rs ∧ w.grownBy w' (some g) := by
  have HG := Lib.hid h
  have HD := Lib.hid h.dig
  obtain ⟨n, hn⟩ : ∃ n, n = ds.length := ⟨_, rfl⟩
  rw [← hn] at hl ⊢
  have HN := Lib.hid hn
  clear h hn
  go_enter Tryd.func67, Tryd.ntmps67
  go_wp2
  go_loopw [7] (fun i wr => ∃ (k : Nat) (outs : List Nat), k ≤ n ∧ i = .int .i64 k ∧ Hid (outs.length = k ∧ IsDig outs ∧ num outs = num ds / 2 ^ s % 4294967296 ^ k) ∧ Hid (Blk wr g (splice ds 0 outs) ∧ w.grownBy wr (some g))) (fun i _ => n - (intOf i).toNat)
  case atStart => exact ⟨0, [], by omega, rfl, ⟨rfl, isDig_nil, by simp [num, Nat.mod_one]⟩, by rw [splice_nil]; exact HG.out, only_refl _ _⟩
  case round =>
    obtain ⟨k, outs, hk, rfl, hv, hb⟩ := hrel
    by_cases hlt : k < n
    · have hN := HN.out
      have hx1 := getD_lt HD.out k
      have hy1 := getD_lt HD.out (k + 1)
      obtain ⟨s1, s2, s3, s4⟩ := shiftDown_step HD.out hs (by omega : k < ds.length) hv.out.1 hv.out.2.2
      have hlen : (splice ds 0 outs).length = n := by rw [splice_len (by have := hv.out.1; omega)]; exact hN.symm
      have g1 := hb.out.1.cell (i := k) (by omega)
      have g2 := hb.out.1.frozen k
      rw [splice_getD_ge (by have := hv.out.1; omega) (by omega)] at g1
      have hy0 : ¬ k + 1 < n → ds.getD (k + 1) 0 = 0 := fun h => getD_ge (by omega)
      have g3 : k + 1 < n → wr.cell? ⟨g, k + 1, none⟩ = some (.int .u32 ((ds.getD (k + 1) 0 : Nat) : Int)) := fun h => by
        have := hb.out.1.cell (i := k + 1) (by omega)
        rwa [splice_getD_ge (by have := hv.out.1; omega) (by omega)] at this
      obtain ⟨x, hx⟩ : ∃ d, d = ds.getD k 0 := ⟨_, rfl⟩
      obtain ⟨y, hy⟩ : ∃ d, d = ds.getD (k + 1) 0 := ⟨_, rfl⟩
      rw [← hx, ← hy] at s1 s3
      rw [← hx] at g1 hx1 s2
      rw [← hy] at g3 hy1 s4 hy0
      obtain ⟨lo, hlo⟩ : ∃ l, l = x / 2 ^ s := ⟨_, rfl⟩
      obtain ⟨r, hr⟩ : ∃ l, l = x / 2 ^ s + y * 2 ^ (32 - s) % 4294967296 := ⟨_, rfl⟩
      have hrl : r = lo + y * 2 ^ (32 - s) % 4294967296 := by rw [hr, hlo]
      rw [← hr] at s1 s3
      rw [← hlo] at s2
      have hlo1 : lo < 4294967296 := by omega
      have hE1 : (x : Int) / 2 ^ s = (lo : Int) := shr_cast hlo.symm
      have hst1 := hb.out.1.set (i := k) (d := lo) (by omega) hlo1
      have e1 := splice_set (ds := ds) (o := 0) (d := lo) (outs := outs) (by have := hv.out.1; omega)
      rw [hv.out.1, Nat.zero_add] at e1
      rw [e1] at hst1
      have hon1 := only_set (i := k) hb.out.2 (.int .u32 (lo : Int))
      by_cases hlt2 : k + 1 < n
      · have hE2 : bits .or .u32 (lo : Int) ((y : Int) * 2 ^ (32 - s) % 4294967296) = (r : Int) := or_cast rfl (by
          rw [hrl]
          exact join32 (i := 32 - s) hlo1 (by omega) (by rw [s4]; exact Nat.mul_mod_right _ _) (Nat.mod_lt _ (by omega)) s2)
        have hst2 := hst1.set (i := k) (d := r) (by rw [splice_len (by simp; have := hv.out.1; omega)]; omega) s3
        have e2 := splice_again (ds := ds) (o := 0) (c := lo) (d := r) (outs := outs) (by have := hv.out.1; omega)
        rw [hv.out.1, Nat.zero_add] at e2
        rw [e2] at hst2
        have hon2 := only_set (i := k) hon1 (.int .u32 (r : Int))
        have f1 := hst1.cell (i := k) (by rw [splice_len (by simp; have := hv.out.1; omega)]; omega)
        have e5 : (splice ds 0 (outs ++ [lo])).getD k 0 = lo := by
          have := splice_getD_mid (ds := ds) (o := 0) (i := k) (outs := outs ++ [lo]) (by simp; have := hv.out.1; omega) (by omega)
          rw [Nat.zero_add] at this
          rw [this, ← hv.out.1]; simp [List.getD]
        rw [e5] at f1
        have g3' := g3 hlt2
        have f2 : (wr.setCell ⟨g, k, none⟩ (.int .u32 (lo : Int))).cell? ⟨g, k + 1, none⟩ = some (.int .u32 (y : Int)) := (World.cell?_setCell_other wr _ _ _ (by simp)).trans g3'
        have HS := Lib.hid (And.intro s1 (And.intro s3 (And.intro hst2 hon2)))
        have i1 : (0 : Int) ≤ (k : Int) := by omega
        have i2 : (k : Int) < (n : Int) := by omega
        have i3 : (k : Int) + 1 < (n : Int) := by omega
        have i4 : (0 : Int) ≤ (k : Int) + 1 := by omega
        have i8 : IntKind.i64.wrap ((k : Int) + 1) = (k : Int) + 1 := IntWalk.i64_in _ (by omega)
        have i9 : ((k : Int) + 1).toNat = k + 1 := by omega
        have hmin : bits .or .u32 (lo : Int) ((y : Int) * 2 ^ min (32 - s) 32 % 4294967296) = (r : Int) := by rw [Nat.min_eq_left (by omega)]; exact hE2
        clear hx hy s1 s2 s3 s4 hlen hN hlo hr hrl hst1 e1 hon1 hst2 e2 hon2 e5 hy0 g3
        go_wp2
        go_region_with (fail)
        all_goals
          go_wp2
          go_roundw
          case rel =>
            rw [hmin]
            exact ⟨k + 1, outs ++ [r], by omega, by go_num, ⟨by rw [List.length_append, hv.out.1]; rfl, isDig_snoc hv.out.2.1 HS.out.2.1, HS.out.1⟩, HS.out.2.2.1, only_drew HS.out.2.2.2⟩
          case measure => simp [intOf]; omega
      · have hy00 := hy0 hlt2
        have hrlo : r = lo := by rw [hrl, hy00]; simp
        rw [hrlo] at s1
        have HS := Lib.hid (And.intro s1 (And.intro hlo1 (And.intro hst1 hon1)))
        have i3 : (n : Int) ≤ (k : Int) + 1 := by omega
        clear hx hy s1 s2 s3 s4 hlen hN hlo hr hrl hst1 e1 hon1 hy0 g3 hy00 hrlo
        go_wp2
        go_roundw
        case rel => exact ⟨k + 1, outs ++ [lo], by omega, by go_num, ⟨by rw [List.length_append, hv.out.1]; rfl, isDig_snoc hv.out.2.1 HS.out.2.1, HS.out.1⟩, HS.out.2.2.1, HS.out.2.2.2⟩
        case measure => simp [intOf]; omega
    · obtain rfl : k = n := by omega
      have hN := HN.out
      have h3 := hv.out.2.2
      rw [hN] at h3
      have h4 := shiftDown_end HD.out h3
      have e : splice ds 0 outs = outs := by
        unfold splice
        rw [List.drop_of_length_le (by have := hv.out.1; omega)]; simp
      have hb2 := hb.out
      rw [e] at hb2
      have HS := Lib.hid (And.intro hb2 h4)
      clear hN h3 e hb2 h4
      go_wp2
      go_end0
      exact ⟨rfl, outs, hv.out.1, HS.out.2, HS.out.1.1, HS.out.1.2⟩
end Go.Proofs.YtkceldnljppflaaDoor.Nat02
