/- What subtractTimes, addBack and divideStep of package nat give back. -/
import Derived.Test.YtkceldnljppflaaDoorN2j
import Derived.Deep.RegionWith
namespace Go.Proofs.YtkceldnljppflaaDoor.Nat02
open Go.RowKit
set_option linter.unusedVariables false
open Go.Proofs.YtkceldnljppflaaDoor.Dig

/-- what is left of a product that was taken away in its place; was it too much? -/
def RetSubT (g o n : Nat) (ds W D : List Nat) (d : Nat) (w : World) (e : Ending) (w' : World) : Prop :=
  ∃ (b : Nat) (outs : List Nat), e = .returned (.bool ((b : Int) != 0)) ∧ b ≤ 1 ∧ outs.length = n + 1 ∧ IsDig outs ∧ num outs + num D * d = num W + 4294967296 ^ (n + 1) * b ∧ Blk w' g (splice ds o outs) ∧ w.grownBy w' (some g)

set_option maxRecDepth 100000 in
set_option maxHeartbeats 4000000 in
theorem subTimes_any (g o n c : Nat) (vb : Value) (ds D : List Nat) (d : Nat) (w : World) (hg : Blk w g ds) (ho : o + (n + 1) ≤ ds.length) (hy : Row w vb D) (hf : Far g vb) (hn : D.length = n) (hl : ds.length ≤ 10000) (hd : d < 4294967296) :
    Calls Tryd.prog 75 #[.slice (some ⟨g, o, none⟩) (n + 1) c, vb, .int .u32 (d : Int)] w (RetSubT g o n ds ((ds.drop o).take (n + 1)) D d w) := by
  have hRW := hy
  obtain ⟨dy, B, cB, rfl, hcy, -⟩ := hy
  have HF := Lib.hid hf
  have HC := Lib.hid hcy
  have HD := Lib.hid (And.intro dy hg.dig)
  have HG := Lib.hid hg
  have HRW := Lib.hid hRW
  obtain ⟨L, hL⟩ : ∃ l, l = ds.length := ⟨_, rfl⟩
  rw [hn] at HF HRW ⊢
  rw [← hL] at ho hl
  obtain ⟨WW, hWW⟩ : ∃ l, l = (ds.drop o).take (n + 1) := ⟨_, rfl⟩
  have hWl : WW.length = n + 1 := by rw [hWW]; simp; omega
  have hWg : ∀ k, k < n + 1 → WW.getD k 0 = ds.getD (o + k) 0 := fun k hk => by rw [hWW]; exact drop_take_getD hk
  rw [← hWW]
  have HN := Lib.hid (And.intro hn (And.intro hL (And.intro hWl hWg)))
  have hn1 : n ≤ 10000 := by omega
  clear hf hcy dy hg hn hL hRW hWW hWl hWg
  go_enter Tryd.func75, Tryd.ntmps75
  go_wp2
  go_loopw [7, 8, 15] (fun cv bv i wr => ∃ (k t u : Nat) (outs : List Nat), k ≤ n ∧ i = .int .i64 k ∧ cv = .int .u32 t ∧ bv = .int .u32 u ∧ t < 4294967296 ∧ u ≤ 1 ∧ Hid (outs.length = k ∧ IsDig outs ∧ num outs + num (D.take k) * d = num (WW.take k) + 4294967296 ^ k * (t + u)) ∧ Hid (Blk wr g (splice ds o outs) ∧ w.grownBy wr (some g))) (fun _ _ i _ => n - (intOf i).toNat)
  case atStart => exact ⟨0, 0, 0, [], by omega, rfl, rfl, rfl, by omega, by omega, ⟨rfl, isDig_nil, by simp [num]⟩, by rw [splice_nil]; exact ⟨HG.out, only_refl _ _⟩⟩
  case round =>
    obtain ⟨k, t, u, outs, hk, rfl, rfl, rfl, ht, hu, hv, hb⟩ := hrel
    by_cases hlt : k < n
    · have hN := HN.out
      obtain ⟨b, o2, rfl, hcc⟩ := HC.out (by omega)
      have hcell := (HRW.out.grown HF.out hb.out.2).at_ hlt
      have hlen : (splice ds o outs).length = L := by rw [splice_len (by have := hv.out.1; omega)]; omega
      have g1 := hb.out.1.cell (i := o + k) (by omega)
      have g2 := hb.out.1.frozen (o + k)
      rw [splice_getD_ge (by have := hv.out.1; omega) (by omega)] at g1
      have hy1 := getD_lt HD.out.1 k
      have hx1 := getD_lt HD.out.2 (o + k)
      have hstep := subT_step (D := D) (d := d) hv.out.1 (by rw [hN.2.2.2 k (by omega)]; exact hx1) hu hv.out.2.2
      rw [hN.2.2.2 k (by omega)] at hstep
      obtain ⟨x, hx⟩ : ∃ d, d = ds.getD (o + k) 0 := ⟨_, rfl⟩
      obtain ⟨y, hy⟩ : ∃ d, d = D.getD k 0 := ⟨_, rfl⟩
      rw [← hx, ← hy] at hstep
      rw [← hx] at g1 hx1
      rw [← hy] at hcell hy1
      have hfit := timesPlus_fit hy1 hd ht (show 0 < 4294967296 by omega)
      obtain ⟨p, hp⟩ : ∃ p, p = y * d := ⟨_, rfl⟩
      obtain ⟨h, hh⟩ : ∃ s, s = y * d / 4294967296 := ⟨_, rfl⟩
      obtain ⟨l, hl2⟩ : ∃ s, s = y * d % 4294967296 := ⟨_, rfl⟩
      have HM := Lib.hid fun W => Bits.mul32 y d h l W hy1 hd hh hl2
      rw [← hp] at hstep hfit hh hl2
      obtain ⟨l2, hl3⟩ : ∃ s, s = (l + t) % 4294967296 := ⟨_, rfl⟩
      obtain ⟨t1, ht1⟩ : ∃ s, s = (l + t) / 4294967296 := ⟨_, rfl⟩
      have HA := Lib.hid fun W => Bits.add32z l t l2 t1 W (by omega) ht hl3 ht1
      obtain ⟨s, hs⟩ : ∃ s, s = (4294967296 + x - l2 - u) % 4294967296 := ⟨_, rfl⟩
      obtain ⟨u2, hu2⟩ : ∃ s, s = 1 - (4294967296 + x - l2 - u) / 4294967296 := ⟨_, rfl⟩
      have HS2 := Lib.hid fun W => Bits.sub32 x l2 u s u2 W hx1 (by omega) hu hs hu2
      have a1 : (p + t) % 4294967296 = l2 := by omega
      have a2 : (p + t) / 4294967296 = t1 + h := by omega
      rw [a1, a2, ← hs, ← hu2] at hstep
      have hs1 : s < 4294967296 := by omega
      have hu21 : u2 ≤ 1 := by omega
      have ht2 : t1 + h < 4294967296 := by omega
      have hset := hb.out.1.set (i := o + k) (d := s) (by omega) hs1
      have e1 := splice_set (ds := ds) (o := o) (d := s) (outs := outs) (by have := hv.out.1; omega)
      rw [hv.out.1] at e1
      rw [e1] at hset
      have HS := Lib.hid (And.intro hstep (And.intro hset (only_set (i := o + k) hb.out.2 (.int .u32 (s : Int)))))
      clear hcc hx hy hp hh hl2 hl3 ht1 hs hu2 a1 a2 hstep hlen hset e1 hN hfit
      go_wp2_with (first
        | (go_at_call 72; (with_reducible refine (HM.out _).mono ?_); rintro e w1 ⟨rfl, rfl⟩)
        | (go_at_call 41; (with_reducible refine (HA.out _).mono ?_); rintro e w1 ⟨rfl, rfl⟩)
        | (go_at_call 44; (with_reducible refine (HS2.out _).mono ?_); rintro e w1 ⟨rfl, rfl⟩))
      go_roundw
      case rel => exact ⟨k + 1, t1 + h, u2, outs ++ [s], by omega, by go_num, by go_num, rfl, ht2, hu21, ⟨by rw [List.length_append, hv.out.1]; rfl, isDig_snoc hv.out.2.1 hs1, HS.out.1⟩, ⟨HS.out.2.1, HS.out.2.2⟩⟩
      case measure => simp [intOf]; omega
    · obtain rfl : k = n := by omega
      have hN := HN.out
      have hlen : (splice ds o outs).length = L := by rw [splice_len (by have := hv.out.1; omega)]; omega
      have g1 := hb.out.1.cell (i := o + k) (by omega)
      have g2 := hb.out.1.frozen (o + k)
      rw [splice_getD_ge (by have := hv.out.1; omega) (by omega)] at g1
      have hx1 := getD_lt HD.out.2 (o + k)
      have hend := subT_end (d := d) hv.out.1 hN.2.2.1 hN.1 (by rw [hN.2.2.2 k (by omega)]; exact hx1) ht hu hv.out.2.2
      rw [hN.2.2.2 k (by omega)] at hend
      obtain ⟨x, hx⟩ : ∃ d, d = ds.getD (o + k) 0 := ⟨_, rfl⟩
      rw [← hx] at hend
      rw [← hx] at g1 hx1
      obtain ⟨s, hs⟩ : ∃ s, s = (4294967296 + x - t - u) % 4294967296 := ⟨_, rfl⟩
      obtain ⟨u2, hu2⟩ : ∃ s, s = 1 - (4294967296 + x - t - u) / 4294967296 := ⟨_, rfl⟩
      have HS2 := Lib.hid fun W => Bits.sub32 x t u s u2 W hx1 ht hu hs hu2
      rw [← hs, ← hu2] at hend
      have hs1 : s < 4294967296 := by omega
      have hu21 : u2 ≤ 1 := by omega
      have hset := hb.out.1.set (i := o + k) (d := s) (by omega) hs1
      have e1 := splice_set (ds := ds) (o := o) (d := s) (outs := outs) (by have := hv.out.1; omega)
      rw [hv.out.1] at e1
      rw [e1] at hset
      have HS := Lib.hid (And.intro hend (And.intro hset (only_set (i := o + k) hb.out.2 (.int .u32 (s : Int)))))
      clear hx hs hu2 hend hlen hset e1 hN
      go_wp2_with (go_at_call 44; (with_reducible refine (HS2.out _).mono ?_); rintro e w1 ⟨rfl, rfl⟩)
      go_ret
      exact ⟨u2, outs ++ [s], rfl, hu21, by rw [List.length_append, hv.out.1]; rfl, isDig_snoc hv.out.2.1 hs1, HS.out.1, HS.out.2.1, HS.out.2.2⟩

/-- what is added back in its place wraps round -/
def RetBack (g o n : Nat) (ds W D : List Nat) (w : World) (e : Ending) (w' : World) : Prop :=
  e = .returned (.tuple #[]) ∧ ∃ (c : Nat) (outs : List Nat), c ≤ 1 ∧ outs.length = n + 1 ∧ IsDig outs ∧ num outs + 4294967296 ^ (n + 1) * c = num W + num D ∧ Blk w' g (splice ds o outs) ∧ w.grownBy w' (some g)

set_option maxRecDepth 100000 in
set_option maxHeartbeats 4000000 in
theorem addBack_any (g o n c : Nat) (vb : Value) (ds D : List Nat) (w : World) (hg : Blk w g ds) (ho : o + (n + 1) ≤ ds.length) (hy : Row w vb D) (hf : Far g vb) (hn : D.length = n) (hl : ds.length ≤ 10000) :
    Calls Tryd.prog 76 #[.slice (some ⟨g, o, none⟩) (n + 1) c, vb] w (RetBack g o n ds ((ds.drop o).take (n + 1)) D w) := by
  have hRW := hy
  obtain ⟨dy, B, cB, rfl, hcy, -⟩ := hy
  have HF := Lib.hid hf
  have HC := Lib.hid hcy
  have HD := Lib.hid (And.intro dy hg.dig)
  have HG := Lib.hid hg
  have HRW := Lib.hid hRW
  obtain ⟨L, hL⟩ : ∃ l, l = ds.length := ⟨_, rfl⟩
  rw [hn] at HF HRW ⊢
  rw [← hL] at ho hl
  obtain ⟨WW, hWW⟩ : ∃ l, l = (ds.drop o).take (n + 1) := ⟨_, rfl⟩
  have hWl : WW.length = n + 1 := by rw [hWW]; simp; omega
  have hWg : ∀ k, k < n + 1 → WW.getD k 0 = ds.getD (o + k) 0 := fun k hk => by rw [hWW]; exact drop_take_getD hk
  rw [← hWW]
  have HN := Lib.hid (And.intro hn (And.intro hL (And.intro hWl hWg)))
  have hn1 : n ≤ 10000 := by omega
  clear hf hcy dy hg hn hL hRW hWW hWl hWg
  go_enter Tryd.func76, Tryd.ntmps76
  go_wp2
  go_loopw [4, 8] (fun cv i wr => ∃ (k t : Nat) (outs : List Nat), k ≤ n ∧ i = .int .i64 k ∧ cv = .int .u32 t ∧ t ≤ 1 ∧ Hid (outs.length = k ∧ IsDig outs ∧ num outs + 4294967296 ^ k * t = num (WW.take k) + num (D.take k)) ∧ Hid (Blk wr g (splice ds o outs) ∧ w.grownBy wr (some g))) (fun _ i _ => n - (intOf i).toNat)
  case atStart => exact ⟨0, 0, [], by omega, rfl, rfl, by omega, ⟨rfl, isDig_nil, by simp [num]⟩, by rw [splice_nil]; exact ⟨HG.out, only_refl _ _⟩⟩
  case round =>
    obtain ⟨k, t, outs, hk, rfl, rfl, ht, hv, hb⟩ := hrel
    by_cases hlt : k < n
    · have hN := HN.out
      obtain ⟨b, o2, rfl, hcc⟩ := HC.out (by omega)
      have hcell := (HRW.out.grown HF.out hb.out.2).at_ hlt
      have hlen : (splice ds o outs).length = L := by rw [splice_len (by have := hv.out.1; omega)]; omega
      have g1 := hb.out.1.cell (i := o + k) (by omega)
      have g2 := hb.out.1.frozen (o + k)
      rw [splice_getD_ge (by have := hv.out.1; omega) (by omega)] at g1
      have hy1 := getD_lt HD.out.1 k
      have hx1 := getD_lt HD.out.2 (o + k)
      have hstep := plus_step hv.out.1 hv.out.2.2
      rw [hN.2.2.2 k (by omega)] at hstep
      obtain ⟨x, hx⟩ : ∃ d, d = ds.getD (o + k) 0 := ⟨_, rfl⟩
      obtain ⟨y, hy⟩ : ∃ d, d = D.getD k 0 := ⟨_, rfl⟩
      rw [← hx, ← hy] at hstep
      rw [← hx] at g1 hx1
      rw [← hy] at hcell hy1
      obtain ⟨s, hs⟩ : ∃ s, s = (x + y + t) % 4294967296 := ⟨_, rfl⟩
      obtain ⟨t2, ht2⟩ : ∃ s, s = (x + y + t) / 4294967296 := ⟨_, rfl⟩
      have HA := Lib.hid fun W => Bits.add32 x y t s t2 W hx1 hy1 (by omega) hs ht2
      rw [← hs, ← ht2] at hstep
      have hs1 : s < 4294967296 := by omega
      have ht21 : t2 ≤ 1 := by omega
      have hset := hb.out.1.set (i := o + k) (d := s) (by omega) hs1
      have e1 := splice_set (ds := ds) (o := o) (d := s) (outs := outs) (by have := hv.out.1; omega)
      rw [hv.out.1] at e1
      rw [e1] at hset
      have HS := Lib.hid (And.intro hstep (And.intro hset (only_set (i := o + k) hb.out.2 (.int .u32 (s : Int)))))
      clear hcc hx hy hs ht2 hstep hlen hset e1 hN
      have i1 : (0 : Int) ≤ (k : Int) := by omega
      have i2 : (k : Int) < (n : Int) := by omega
      have i3 : (k : Int) < (n : Int) + 1 := by omega
      go_wp2
      go_region_with (first | (go_at_call 41; (with_reducible refine (HA.out _).mono ?_); rintro e w1 ⟨rfl, rfl⟩))
      all_goals
        go_wp2
        go_roundw
        case rel => exact ⟨k + 1, t2, outs ++ [s], by omega, by go_num, rfl, ht21, ⟨by rw [List.length_append, hv.out.1]; rfl, isDig_snoc hv.out.2.1 hs1, HS.out.1⟩, ⟨HS.out.2.1, only_drew HS.out.2.2⟩⟩
        case measure => simp [intOf]; omega
    · obtain rfl : k = n := by omega
      have hN := HN.out
      have hlen : (splice ds o outs).length = L := by rw [splice_len (by have := hv.out.1; omega)]; omega
      have g1 := hb.out.1.cell (i := o + k) (by omega)
      have g2 := hb.out.1.frozen (o + k)
      rw [splice_getD_ge (by have := hv.out.1; omega) (by omega)] at g1
      have hx1 := getD_lt HD.out.2 (o + k)
      have hend := addBack_end hv.out.1 hN.2.2.1 hN.1 hv.out.2.2
      rw [hN.2.2.2 k (by omega)] at hend
      obtain ⟨x, hx⟩ : ∃ d, d = ds.getD (o + k) 0 := ⟨_, rfl⟩
      rw [← hx] at hend
      rw [← hx] at g1 hx1
      obtain ⟨s, hs⟩ : ∃ s, s = (x + t) % 4294967296 := ⟨_, rfl⟩
      obtain ⟨u2, hu2⟩ : ∃ s, s = (x + t) / 4294967296 := ⟨_, rfl⟩
      have hsi : ((x : Int) + (t : Int)) % 4294967296 = (s : Int) := by omega
      rw [← hs, ← hu2] at hend
      have hs1 : s < 4294967296 := by omega
      have hu21 : u2 ≤ 1 := by omega
      have hset := hb.out.1.set (i := o + k) (d := s) (by omega) hs1
      have e1 := splice_set (ds := ds) (o := o) (d := s) (outs := outs) (by have := hv.out.1; omega)
      rw [hv.out.1] at e1
      rw [e1] at hset
      have HS := Lib.hid (And.intro hend (And.intro hset (only_set (i := o + k) hb.out.2 (.int .u32 (s : Int)))))
      clear hx hs hu2 hend hlen hset e1 hN
      go_wp2
      go_end0
      exact ⟨rfl, u2, outs ++ [s], hu21, by rw [List.length_append, hv.out.1]; rfl, isDig_snoc hv.out.2.1 hs1, HS.out.1, HS.out.2.1, HS.out.2.2⟩
end Go.Proofs.YtkceldnljppflaaDoor.Nat02
