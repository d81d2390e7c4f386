/- What addTimes of package nat gives back. -/
import Derived.Test.YtkceldnljppflaaDoorN2e
import Derived.Deep.RegionWith
import Derived.Deep.DrawnRows
namespace Go.Proofs.YtkceldnljppflaaDoor.Nat02
open Go.RowKit
set_option linter.unusedVariables false
open Go.Proofs.YtkceldnljppflaaDoor.Dig

/-- digits added in their place, and what is carried -/
def RetAdd (g o n : Nat) (ds : List Nat) (sum : Nat) (w : World) (e : Ending) (w' : World) : Prop :=
  ∃ (c : Nat) (outs : List Nat), e = .returned (.int .u32 (c : Int)) ∧ c < 4294967296 ∧ outs.length = n ∧ IsDig outs ∧ num outs + 4294967296 ^ n * c = sum ∧ Blk w' g (splice ds o outs) ∧ w.grownBy w' (some g)

set_option maxRecDepth 100000 in
set_option maxHeartbeats 4000000 in
theorem addTimes_any (g o n c : Nat) (vb : Value) (ds ys : List Nat) (d : Nat) (w : World) (hg : Blk w g ds) (ho : o + n ≤ ds.length) (hy : Row w vb ys) (hf : Far g vb) (hn : ys.length = n) (hl : ds.length ≤ 10000) (hd : d < 4294967296) (hcn : n ≤ c) :
    Calls Tryd.prog 47 #[.slice (some ⟨g, o, none⟩) n c, vb, .int .u32 (d : Int)] w (RetAdd g o n ds (num ((ds.drop o).take n) + num ys * d) w) := by
  obtain ⟨dy, B, cB, rfl, hcy, hcapy⟩ := hy
  have HF := Lib.hid hf
  have HC := Lib.hid hcy
  have HD := Lib.hid (And.intro dy hg.dig)
  have HG := Lib.hid hg
  have HRW := Lib.hid (show Row w (.slice B ys.length cB) ys from ⟨dy, B, cB, rfl, hcy, hcapy⟩)
  clear hcapy
  obtain ⟨L, hL⟩ : ∃ l, l = ds.length := ⟨_, rfl⟩
  rw [hn] at HF HRW ⊢
  rw [← hL] at ho hl
  have HN := Lib.hid (And.intro hn hL)
  clear hf hcy dy hg hn hL
  go_enter Tryd.func47, Tryd.ntmps47
  go_wp2
  go_loopw [7, 11] (fun cv i wr => ∃ (k t : Nat) (outs : List Nat), k ≤ n ∧ i = .int .i64 k ∧ cv = .int .u32 t ∧ t < 4294967296 ∧ Hid (outs.length = k ∧ IsDig outs ∧ num outs + 4294967296 ^ k * t = num (((ds.drop o).take n).take k) + num (ys.take k) * d) ∧ Hid (Blk wr g (splice ds o outs) ∧ w.grownBy wr (some g))) (fun _ i _ => n - (intOf i).toNat)
  case atStart => exact ⟨0, 0, [], by omega, rfl, rfl, by omega, ⟨rfl, isDig_nil, by simp [num]⟩, by rw [splice_nil]; exact ⟨HG.out, only_refl _ _⟩⟩
  case round =>
    obtain ⟨k, t, outs, hk, rfl, rfl, ht, hv, hb⟩ := hrel
    by_cases hlt : k < n
    · have hN := HN.out
      obtain ⟨b, o2, rfl, hcc⟩ := HC.out (by omega)
      have hcell := (HRW.out.grown HF.out hb.out.2).at_ hlt
      have hb1 : b ≠ g := HF.out b o2 n cB rfl (by omega)
      have hlen : (splice ds o outs).length = L := by rw [splice_len (by have := hv.out.1; omega)]; omega
      have g1 := hb.out.1.cell (i := o + k) (by omega)
      have g2 := hb.out.1.frozen (o + k)
      rw [splice_getD_ge (by have := hv.out.1; omega) (by omega)] at g1
      have hy1 := getD_lt HD.out.1 k
      have hx1 := getD_lt HD.out.2 (o + k)
      have hstep := addTimes_step (d := d) hv.out.1 hv.out.2.2
      rw [drop_take_getD hlt] at hstep
      obtain ⟨x, hx⟩ : ∃ d, d = ds.getD (o + k) 0 := ⟨_, rfl⟩
      obtain ⟨y, hy⟩ : ∃ d, d = ys.getD k 0 := ⟨_, rfl⟩
      rw [← hx, ← hy] at hstep
      rw [← hx] at g1 hx1
      rw [← hy] at hcell hy1
      have hfit := timesPlus_fit hy1 hd hx1 ht
      obtain ⟨s, hs⟩ : ∃ s, s = (y * d + x + t) % 4294967296 := ⟨_, rfl⟩
      obtain ⟨t2, ht2⟩ : ∃ s, s = (y * d + x + t) / 4294967296 := ⟨_, rfl⟩
      have HA := Lib.hid fun W => Bits.times_plus y d x t t2 s W hy1 hd hx1 ht ht2 hs
      rw [← hs, ← ht2] at hstep
      have hs1 : s < 4294967296 := by omega
      have ht21 : t2 < 4294967296 := by omega
      have hset := hb.out.1.set (i := o + k) (d := s) (by omega) hs1
      have e1 := splice_set (ds := ds) (o := o) (d := s) (outs := outs) (by have := hv.out.1; omega)
      rw [hv.out.1] at e1
      rw [e1] at hset
      have HS := Lib.hid (And.intro hstep (And.intro hset (only_set (i := o + k) hb.out.2 (.int .u32 (s : Int)))))
      clear hcc hx hy hs ht2 hstep hlen hset e1 hN hfit
      have i1 : (0 : Int) ≤ (k : Int) := by omega
      have i2 : (k : Int) < (n : Int) := by omega
      go_wp2
      go_region_with (first | (go_at_call 62; (with_reducible refine (HA.out _).mono ?_); rintro e w1 ⟨rfl, rfl⟩))
      all_goals
        go_wp2
        go_roundw
        case rel => exact ⟨k + 1, t2, outs ++ [s], by omega, by go_num, rfl, ht21, ⟨by rw [List.length_append, hv.out.1]; rfl, isDig_snoc hv.out.2.1 hs1, HS.out.1⟩, ⟨HS.out.2.1, only_drew HS.out.2.2⟩⟩
        case measure => simp [intOf]; omega
    · obtain rfl : k = n := by omega
      have hN := HN.out
      have h3 := hv.out.2.2
      rw [List.take_of_length_le (by simp; omega), List.take_of_length_le (by omega : ys.length ≤ k)] at h3
      have HS := Lib.hid (And.intro hv.out.1 (And.intro hv.out.2.1 (And.intro h3 hb.out)))
      clear hN h3 hv hb
      go_wp2
      go_ret
      exact ⟨t, outs, rfl, ht, HS.out.1, HS.out.2.1, HS.out.2.2.1, HS.out.2.2.2.1, HS.out.2.2.2.2⟩
end Go.Proofs.YtkceldnljppflaaDoor.Nat02
