/- What addTimes of package nat gives back. What Mul of package nat gives back. What divideByDigit and quotientLength of package nat give back. What shiftUp and shiftDown of package nat give back. -/
import Derived.Test.YtbbemgeinlehmaaGreatDoorNc
import Derived.Deep.RegionWith
import Derived.Deep.DrawnRows
import Derived.IntWalk
import Derived.RegionTactic
import Derived.BigRegion
namespace Go.Proofs.YtbbemgeinlehmaaGreatDoor.Nat02
open Go.RowKit
set_option linter.unusedVariables false
open Go.Proofs.YtbbemgeinlehmaaGreatDoor.Dig

/-- digits added in their place, and what is carried -/
def RetAdd (g o n : Nat) (ds : List Nat) (sum : Nat) (w : World) (e : Ending) (w' : World) : Prop :=
  ∃ (c : Nat) (outs : List Nat), e = .returned (.int .u32 (c : Int)) ∧ c < 4294967296 ∧ outs.length = n ∧ IsDig outs ∧ num outs + 4294967296 ^ n * c = sum ∧ Blk w' g (splice ds o outs) ∧ w.grownBy w' (some g)

set_option maxRecDepth 100000 in
set_option maxHeartbeats 4000000 in
theorem addTimes_any (g o n c : Nat) (vb : Value) (ds ys : List Nat) (d : Nat) (w : World) (hg : Blk w g ds) (ho : o + n ≤ ds.length) (hy : Row w vb ys) (hf : Far g vb) (hn : ys.length = n) (hl : ds.length ≤ 10000) (hd : d < 4294967296) (hcn : n ≤ c) :
    Calls Tryz.prog 111 #[.slice (some ⟨g, o, none⟩) n c, vb, .int .u32 (d : Int)] w (RetAdd g o n ds (num ((ds.drop o).take n) + num ys * d) w) := by
  obtain ⟨dy, B, cB, rfl, hcy, hcapy⟩ := hy
  have HF := Lib.hid hf
  have HC := Lib.hid hcy
  have HD := Lib.hid (And.intro dy hg.dig)
  have HG := Lib.hid hg
  have HRW := Lib.hid (show Row w (.slice B ys.length cB) ys from ⟨dy, B, cB, rfl, hcy, hcapy⟩)
  clear hcapy
  obtain ⟨L, hL⟩ : ∃ l, l = ds.length := ⟨_, rfl⟩
  rw [hn] at HF HRW ⊢
  rw [← hL] at ho hl
  have HN := Lib.hid (And.intro hn hL)
  clear hf hcy dy hg hn hL
  go_enter Tryz.func111, Tryz.ntmps111
  go_wp2
  go_loopw [7, 11] (fun cv i wr => ∃ (k t : Nat) (outs : List Nat), k ≤ n ∧ i = .int .i64 k ∧ cv = .int .u32 t ∧ t < 4294967296 ∧ Hid (outs.length = k ∧ IsDig outs ∧ num outs + 4294967296 ^ k * t = num (((ds.drop o).take n).take k) + num (ys.take k) * d) ∧ Hid (Blk wr g (splice ds o outs) ∧ w.grownBy wr (some g))) (fun _ i _ => n - (intOf i).toNat)
  case atStart => exact ⟨0, 0, [], by omega, rfl, rfl, by omega, ⟨rfl, isDig_nil, by simp [num]⟩, by rw [splice_nil]; exact ⟨HG.out, only_refl _ _⟩⟩
  case round =>
    obtain ⟨k, t, outs, hk, rfl, rfl, ht, hv, hb⟩ := hrel
    by_cases hlt : k < n
    · have hN := HN.out
      obtain ⟨b, o2, rfl, hcc⟩ := HC.out (by omega)
      have hcell := (HRW.out.grown HF.out hb.out.2).at_ hlt
      have hb1 : b ≠ g := HF.out b o2 n cB rfl (by omega)
      have hlen : (splice ds o outs).length = L := by rw [splice_len (by have := hv.out.1; omega)]; omega
      have g1 := hb.out.1.cell (i := o + k) (by omega)
      have g2 := hb.out.1.frozen (o + k)
      rw [splice_getD_ge (by have := hv.out.1; omega) (by omega)] at g1
      have hy1 := getD_lt HD.out.1 k
      have hx1 := getD_lt HD.out.2 (o + k)
      have hstep := addTimes_step (d := d) hv.out.1 hv.out.2.2
      rw [drop_take_getD hlt] at hstep
      obtain ⟨x, hx⟩ : ∃ d, d = ds.getD (o + k) 0 := ⟨_, rfl⟩
      obtain ⟨y, hy⟩ : ∃ d, d = ys.getD k 0 := ⟨_, rfl⟩
      rw [← hx, ← hy] at hstep
      rw [← hx] at g1 hx1
      rw [← hy] at hcell hy1
      have hfit := timesPlus_fit hy1 hd hx1 ht
      obtain ⟨s, hs⟩ : ∃ s, s = (y * d + x + t) % 4294967296 := ⟨_, rfl⟩
      obtain ⟨t2, ht2⟩ : ∃ s, s = (y * d + x + t) / 4294967296 := ⟨_, rfl⟩
      have HA := Lib.hid fun W => Bits.times_plus y d x t t2 s W hy1 hd hx1 ht ht2 hs
      rw [← hs, ← ht2] at hstep
      have hs1 : s < 4294967296 := by omega
      have ht21 : t2 < 4294967296 := by omega
      have hset := hb.out.1.set (i := o + k) (d := s) (by omega) hs1
      have e1 := splice_set (ds := ds) (o := o) (d := s) (outs := outs) (by have := hv.out.1; omega)
      rw [hv.out.1] at e1
      rw [e1] at hset
      have HS := Lib.hid (And.intro hstep (And.intro hset (only_set (i := o + k) hb.out.2 (.int .u32 (s : Int)))))
      clear hcc hx hy hs ht2 hstep hlen hset e1 hN hfit
      have i1 : (0 : Int) ≤ (k : Int) := by omega
      have i2 : (k : Int) < (n : Int) := by omega
      go_wp2
      go_region_with (first | (go_at_call 119; (with_reducible refine (HA.out _).mono ?_); rintro e w1 ⟨rfl, rfl⟩))
      all_goals
        go_wp2
        go_roundw
        case rel => exact ⟨k + 1, t2, outs ++ [s], by omega, by go_num, rfl, ht21, ⟨by rw [List.length_append, hv.out.1]; rfl, isDig_snoc hv.out.2.1 hs1, HS.out.1⟩, ⟨HS.out.2.1, only_drew HS.out.2.2⟩⟩
        case measure => simp [intOf]; omega
    · obtain rfl : k = n := by omega
      have hN := HN.out
      have h3 := hv.out.2.2
      rw [List.take_of_length_le (by simp; omega), List.take_of_length_le (by omega : ys.length ≤ k)] at h3
      have HS := Lib.hid (And.intro hv.out.1 (And.intro hv.out.2.1 (And.intro h3 hb.out)))
      clear hN h3 hv hb
      go_wp2
      go_ret
      exact ⟨t, outs, rfl, ht, HS.out.1, HS.out.2.1, HS.out.2.2.1, HS.out.2.2.2.1, HS.out.2.2.2.2⟩
end Go.Proofs.YtbbemgeinlehmaaGreatDoor.Nat02

namespace Go.Proofs.YtbbemgeinlehmaaGreatDoor.Nat02
open Go.RowKit
set_option linter.unusedVariables false
open Go.Proofs.YtbbemgeinlehmaaGreatDoor.Dig

/-- a step of the product: the digits P hold what has been added up, the others are noughts -/
theorem mul_step {P O ys : List Nat} {i n L c d s : Nat} (dP : IsDig P) (lP : P.length = L) (hL : i + n < L) (lO : O.length = n) (dO : IsDig O) (hc : c < 4294967296) (hz : num (P.drop (i + n)) = 0)
    (hO : num O + 4294967296 ^ n * c = num ((P.drop i).take n) + num ys * d) (hP : num P = s * num ys) :
    num ((splice P i O).set (i + n) c) = (s + 4294967296 ^ i * d) * num ys ∧ num (((splice P i O).set (i + n) c).drop (i + 1 + n)) = 0 := by
  have e1 := splice_set (ds := P) (o := i) (d := c) (outs := O) (by omega)
  rw [lO] at e1
  rw [e1]
  have lO2 : (O ++ [c]).length = n + 1 := by simp [lO]
  have en := num_splice (ds := P) (o := i) (outs := O ++ [c]) (by omega)
  have ed := drop_splice (ds := P) (o := i) (outs := O ++ [c]) (by omega)
  have hz2 : num (P.drop (i + (n + 1))) = 0 := by
    have := num_drop P (i + n)
    rw [hz] at this
    rw [show i + (n + 1) = i + n + 1 by omega]; omega
  rw [lO2, hz2, Nat.mul_zero, Nat.add_zero, num_snoc, lO, hO] at en
  refine ⟨?_, ?_⟩
  · have h1 := num_split P (j := i) (by omega)
    have h2 := num_split (P.drop i) (j := n) (by simp; omega)
    rw [List.drop_drop, hz, Nat.mul_zero, Nat.add_zero] at h2
    rw [h2] at h1
    rw [en]
    rw [hP] at h1
    grind
  · have : (splice P i (O ++ [c])).drop (i + 1 + n) = P.drop (i + (n + 1)) := by
      have h3 : (splice P i (O ++ [c])).drop (i + 1 + n) = ((splice P i (O ++ [c])).drop i).drop (n + 1) := by rw [List.drop_drop]; congr 1; omega
      rw [h3, ed, List.drop_append_of_le_length (by omega), lO2, List.drop_of_length_le (by omega), List.nil_append]
    rw [this, hz2]

set_option maxRecDepth 100000 in
set_option maxHeartbeats 4000000 in
theorem mul_good (vx vy : Value) (xs ys : List Nat) (w : World) (hx : Row w vx xs) (hy : Row w vy ys) (rx : rightB xs = true) (ry : rightB ys = true) :
    Calls Tryz.prog 94 #[vx, vy] w (RetRowErr (fitD (num xs * num ys)).1 (fitD (num xs * num ys)).2 w) := by
  have HX := Lib.hid hx
  have HY := Lib.hid hy
  have nx := right_norm rx
  have ny := right_norm ry
  obtain ⟨dx, A, cA, rfl, hcx, -⟩ := hx
  obtain ⟨dy, B, cB, rfl, hcy, -⟩ := hy
  have HC := Lib.hid (And.intro hcx hcy)
  have HD := Lib.hid (And.intro dx dy)
  have HR := Lib.hid (And.intro rx ry)
  have HNM := Lib.hid (And.intro nx ny)
  obtain ⟨n, hn⟩ : ∃ n, n = xs.length := ⟨_, rfl⟩
  obtain ⟨m, hm⟩ : ∃ n, n = ys.length := ⟨_, rfl⟩
  have hn1 : n ≤ 256 := by omega
  have hm1 : m ≤ 256 := by omega
  rw [← hn] at HX ⊢
  rw [← hm] at HY ⊢
  have HN := Lib.hid (And.intro hn hm)
  clear hcx hcy dx dy nx ny hn hm rx ry
  by_cases hbig : 257 < n + m
  · have e : fitD (num xs * num ys) = ([], 3) := by
      rw [fitD, if_neg]
      have hN := HN.out
      have h1 := norm_ge HNM.out.1.2 (by omega)
      have h2 := norm_ge HNM.out.2.2 (by omega)
      have h3 : 4294967296 ^ (xs.length - 1) * 4294967296 ^ (ys.length - 1) ≤ num xs * num ys := Nat.mul_le_mul h1 h2
      rw [← Nat.pow_add] at h3
      have := digs_len_gt h3
      omega
    rw [e]
    clear e
    have hbig' : (257 : Int) < (n : Int) + (m : Int) := by omega
    go_enter Tryz.func94, Tryz.ntmps94
    go_wp2_with (first
      | (go_at_call 88; (with_reducible refine (right_yes (.slice A n cA) xs _ HX.out (by have := HN.out; omega)).mono ?_); rw [HR.out.1]; rintro e w1 ⟨rfl, rfl⟩)
      | (go_at_call 88; (with_reducible refine (right_yes (.slice B m cB) ys _ HY.out (by have := HN.out; omega)).mono ?_); rw [HR.out.2]; rintro e w1 ⟨rfl, rfl⟩))
    go_ret2
    exact ⟨_, rfl, Row.nil _, Since.refl _⟩
  · obtain ⟨L, hL⟩ : ∃ l : Nat, l = n + m := ⟨_, rfl⟩
    have hLi : (n : Int) + (m : Int) = (L : Int) := by omega
    have hL1 : L ≤ 257 := by omega
    have hnL : n ≤ L := by omega
    have hmL : m ≤ L := by omega
    have HL := Lib.hid hL
    have hmk := make_digits L (by omega)
    clear hbig hL
    go_enter Tryz.func94, Tryz.ntmps94
    go_wp2_with (first
      | (go_at_call 88; (with_reducible refine (right_yes (.slice A n cA) xs _ HX.out (by have := HN.out; omega)).mono ?_); rw [HR.out.1]; rintro e w1 ⟨rfl, rfl⟩)
      | (go_at_call 88; (with_reducible refine (right_yes (.slice B m cB) ys _ HY.out (by have := HN.out; omega)).mono ?_); rw [HR.out.2]; rintro e w1 ⟨rfl, rfl⟩))
    go_loopw [30] (fun i wr => ∃ (k : Nat) (P : List Nat), k ≤ n ∧ i = .int .i64 k ∧ Hid (P.length = L ∧ num P = num (xs.take k) * num ys ∧ num (P.drop (k + m)) = 0) ∧ Hid (Blk wr w.heap.size P) ∧ Since w wr) (fun i _ => n - (intOf i).toNat)
    case atStart => exact ⟨0, List.replicate L 0, by omega, rfl, ⟨by simp, by rw [num_noughts]; simp [num], by rw [List.drop_replicate, num_noughts]⟩, Blk.made w L, since_made w _ _⟩
    case round =>
      obtain ⟨k, P, hk, rfl, hv, hb, hw⟩ := hrel
      by_cases hlt : k < n
      · have hN := HN.out
        have hLL := HL.out
        have hjx : k < xs.length := by omega
        obtain ⟨b, o, rfl, hcc⟩ := HC.out.1 (by omega)
        have hcell := (Below.cell hw (World.block_lt_of_cell? _ _ (hcc k hjx))).trans (hcc k hjx)
        have hx1 := getD_lt HD.out.1 k
        have ht := num_take_succ xs k
        obtain ⟨x, hx⟩ : ∃ d, d = xs.getD k 0 := ⟨_, rfl⟩
        rw [← hx] at hcell hx1 ht
        have HT := Lib.hid ht
        have hadd := Lib.hid fun (W : World) (h1 : Blk W w.heap.size P) (h2 : Since w W) => addTimes_any w.heap.size k m (L - k) (.slice B m cB) P ys x W h1 (by have := hv.out.1; omega) (HY.out.since h2) (Far.of HY.out (Nat.le_refl _)) (by omega) (by have := hv.out.1; omega) hx1 (by omega)
        have i1 : (0 : Int) ≤ (k : Int) := by omega
        have i2 : (k : Int) < (n : Int) := by omega
        have i3 : (k : Int) + (m : Int) < (L : Int) := by omega
        have i4 : ((L : Int) - (k : Int)) = ((L - k : Nat) : Int) := by omega
        have i5 : (0 : Int) ≤ (k : Int) + (m : Int) := by omega
        have i6 : L ≠ k := by omega
        have i7 : ((k : Int) + (m : Int)).toNat = k + m := by omega
        have hb1 : b ≠ w.heap.size := by have := World.block_lt_of_cell? _ _ (hcc k hjx); simp at this; omega
        clear hcc hx ht hN hLL hjx
        have i8 : IntKind.i64.wrap ((k : Int) + (m : Int)) = (k : Int) + (m : Int) := IntWalk.i64_in _ (by omega)
        have i9 : (k : Int) ≤ (k : Int) + (m : Int) := by omega
        have i10 : (k : Int) + (m : Int) ≤ (L : Int) := by omega
        have i11 : k + m - k = m := by omega
        go_wp2
        go_region_held3 (fun W => W.cell? ⟨b, o + k, none⟩ = some (.int .u32 (x : Int)) ∧ Since w W)
          (first | exact ⟨hcell, Since.drew hw⟩ | exact ⟨cell_grown (W := wr.drew) hcell hgO hb1, only_since (Since.drew hw) hgO (Nat.le_refl _)⟩ | exact ⟨cell_far (cell_grown (W := wr.drew) hcell hgO hb1) hb1 _, Since.set (only_since (Since.drew hw) hgO (Nat.le_refl _)) (Nat.le_refl _) _⟩)
          (first | (go_at_call 111; (with_reducible refine (hadd.out _ (Blk.drew hb.out) (Since.drew hw)).mono ?_); rintro e w1 ⟨c, outs, rfl, hc, hlO, hdO, hvO, hbO, hgO⟩; have HO := Lib.hid (And.intro hlO (And.intro hdO hvO)); clear hlO hdO hvO; have hlen := splice_len (ds := P) (o := k) (outs := outs) (by have := hv.out.1; have := HO.out.1; have := HL.out; omega); have f1 := hbO.cell (i := k + m) (by rw [hlen, hv.out.1]; omega); have f2 := hbO.frozen (k + m); have HLEN := Lib.hid hlen; clear hlen; obtain ⟨z, hz⟩ : ∃ z, z = (splice P k outs).getD (k + m) 0 := ⟨_, rfl⟩; rw [← hz] at f1; clear hz))
        all_goals
          go_wp2
          go_roundw
          case rel =>
            have hst := mul_step hb.out.1 hv.out.1 (by have := HL.out; omega) HO.out.1 HO.out.2.1 hc hv.out.2.2 HO.out.2.2 hv.out.2.1
            refine ⟨k + 1, (splice P k outs).set (k + m) c, by omega, by go_num, ⟨by rw [List.length_set, HLEN.out]; exact hv.out.1, ?_, hst.2⟩, hbO.set (by rw [HLEN.out, hv.out.1]; have := HL.out; omega) hc, Since.set (only_since (Since.drew hw) hgO (Nat.le_refl _)) (Nat.le_refl _) _⟩
            rw [hst.1, HT.out]
          case measure => simp [intOf]; omega
      · obtain rfl : k = n := by omega
        have hv2 := hv.out.2.1
        have hN := HN.out
        rw [List.take_of_length_le (by omega : xs.length ≤ k)] at hv2
        have HCUT := Lib.hid fun W (h : Blk W w.heap.size P) => cut_any w.heap.size P W h (by have := hv.out.1; omega)
        rw [hv2] at HCUT
        simp only [hv.out.1] at HCUT
        obtain ⟨R, hR⟩ : ∃ r, r = digs (num xs * num ys) := ⟨_, rfl⟩
        rw [← hR] at HCUT
        have HR2 := Lib.hid hR
        clear hv2 hN hR
        by_cases hfit : R.length ≤ 256
        · have e : fitD (num xs * num ys) = (R, 0) := by rw [fitD, ← HR2.out, if_pos hfit]
          have HE := Lib.hid e
          clear e
          go_wp2_with (go_at_call 110; (with_reducible refine (HCUT.out _ hb.out).mono ?_); rintro e w1 ⟨g2, rfl, hr2, hs2⟩)
          go_ret2
          exact ⟨_, by rw [HE.out]; rfl, by rw [HE.out]; exact hr2, hw.trans hs2⟩
        · have e : fitD (num xs * num ys) = ([], 3) := by rw [fitD, ← HR2.out, if_neg hfit]
          have HE := Lib.hid e
          have hfit2 : 256 < R.length := by omega
          clear e hfit
          go_wp2_with (go_at_call 110; (with_reducible refine (HCUT.out _ hb.out).mono ?_); rintro e w1 ⟨g2, rfl, hr2, hs2⟩)
          go_ret2
          exact ⟨_, by rw [HE.out]; rfl, by rw [HE.out]; exact Row.nil _, hw.trans hs2⟩
theorem mul_any (va vb : Value) (xs ys : List Nat) (w : World) (hx : Row w va xs) (hy : Row w vb ys) (lx : xs.length ≤ 10000) (ly : ys.length ≤ 10000) :
    Calls Tryz.prog 94 #[va, vb] w (RetRowErr (mulD xs ys).1 (mulD xs ys).2 w) := by
  by_cases r1 : rightB xs = true
  · by_cases r2 : rightB ys = true
    · rw [mulD, if_pos ⟨r1, r2⟩]
      exact mul_good va vb xs ys w hx hy r1 r2
    · have r2' : rightB ys = false := by simpa using r2
      rw [mulD, if_neg (fun h => r2 h.2)]
      have H := Lib.hid (And.intro hx hy)
      clear r2 hx hy
      go_enter Tryz.func94, Tryz.ntmps94
      go_wp2_with (first
        | (go_at_call 88; (with_reducible refine (right_yes va xs _ H.out.1 lx).mono ?_); rintro e w1 ⟨rfl, rfl⟩)
        | (go_at_call 88; (with_reducible refine (right_yes vb ys _ H.out.2 ly).mono ?_); rintro e w1 ⟨rfl, rfl⟩))
      go_ret2
      exact ⟨_, rfl, Row.nil _, Since.refl _⟩
  · have r1' : rightB xs = false := by simpa using r1
    rw [mulD, if_neg (fun h => r1 h.1)]
    have H := Lib.hid hx
    clear r1 hx hy
    go_enter Tryz.func94, Tryz.ntmps94
    go_wp2_with (first
      | (go_at_call 88; (with_reducible refine (right_yes va xs _ H.out lx).mono ?_); rintro e w1 ⟨rfl, rfl⟩))
    go_ret2
    exact ⟨_, rfl, Row.nil _, Since.refl _⟩
end Go.Proofs.YtbbemgeinlehmaaGreatDoor.Nat02

namespace Go.Proofs.YtbbemgeinlehmaaGreatDoor.Nat02
open Go.RowKit
set_option linter.unusedVariables false
open Go.Proofs.YtbbemgeinlehmaaGreatDoor.Dig

/-- a quotient written in its place, and what is left -/
def RetDiv (g o n : Nat) (ds xs : List Nat) (d : Nat) (w : World) (e : Ending) (w' : World) : Prop :=
  ∃ outs : List Nat, e = .returned (.int .u32 ((num xs % d : Nat) : Int)) ∧ outs.length = n ∧ IsDig outs ∧ num outs = num xs / d ∧ Blk w' g (splice ds o outs) ∧ w.grownBy w' (some g)

/-- what is to be divided can be read while the quotient is written from above -/
def Reads (g o n : Nat) (ds xs : List Nat) (A : Option Addr) (w : World) : Prop :=
  ∀ wr k outs, k + outs.length = n → Blk wr g (splice ds (o + k) outs) → w.grownBy wr (some g) → ∀ i, i < k → ∃ b p, A = some ⟨b, p, none⟩ ∧ wr.cell? ⟨b, p + i, none⟩ = some (.int .u32 ((xs.getD i 0 : Nat) : Int))

set_option maxRecDepth 100000 in
set_option maxHeartbeats 4000000 in
theorem byDigit_any (g o n c : Nat) (A : Option Addr) (cA : Nat) (ds xs : List Nat) (d : Nat) (w : World) (hg : Blk w g ds) (ho : o + n ≤ ds.length) (hl : ds.length ≤ 100000) (lx : xs.length ≤ 100000)
    (hx : Row w (.slice A xs.length cA) xs) (hn : n = xs.length ∨ (n + 1 = xs.length ∧ xs.getD n 0 < d)) (hd0 : 0 < d) (hd : d < 4294967296) (hr : Reads g o n ds xs A w) :
    Calls Tryz.prog 103 #[.slice (some ⟨g, o, none⟩) n c, .slice A xs.length cA, .int .u32 (d : Int)] w (RetDiv g o n ds xs d w) := by
  have HG := Lib.hid hg
  have HX := Lib.hid hx
  have HRD := Lib.hid hr
  have dx := hx.dig
  obtain ⟨m, hm⟩ : ∃ m, m = xs.length := ⟨_, rfl⟩
  rw [← hm] at lx hn HX ⊢
  have HN := Lib.hid (And.intro hm (And.intro ho hl))
  have HD := Lib.hid dx
  have hnm : n ≤ m := by omega
  have HTOP := Lib.hid hn
  have htop : n < m → ∃ b p, A = some ⟨b, p, none⟩ ∧ w.cell? ⟨b, p + n, none⟩ = some (.int .u32 ((xs.getD n 0 : Nat) : Int)) := fun h => by
    obtain ⟨_, A', c', e, hc, _⟩ := HX.out
    injection e with e1 e2 e3
    obtain ⟨b, p, e4, hcc⟩ := hc (by omega)
    exact ⟨b, p, by rw [e1, e4], hcc n (by omega)⟩
  have hfin : ∀ os L, L < d → num xs = d * num os + L → num os = num xs / d ∧ L = num xs % d := fun os L hL h => by
    rw [h]
    exact ⟨by rw [Nat.mul_add_div hd0, Nat.div_eq_of_lt hL, Nat.add_zero], by rw [Nat.mul_add_mod, Nat.mod_eq_of_lt hL]⟩
  have HF := Lib.hid hfin
  clear hg hx hr dx hm ho hl hfin
  have hround : Hid True := trivial
  rcases hn with hn | hn
  · have hle : ¬ n < m := by omega
    clear htop hn
    go_enter Tryz.func103, Tryz.ntmps103
    go_wp2
    go_loopw [7, 8] (fun l i wr => ∃ (k L : Nat) (os : List Nat), k ≤ n ∧ i = .int .i64 ((k : Int) - 1) ∧ l = .int .u32 L ∧ L < d ∧ Hid (IsDig os ∧ k + os.length = n ∧ num (xs.drop k) = d * num os + L) ∧ Hid (Blk wr g (splice ds (o + k) os) ∧ w.grownBy wr (some g))) (fun _ i _ => (intOf i + 1).toNat)
    case atStart =>
      refine ⟨n, 0, [], Nat.le_refl _, by go_num, rfl, hd0, ⟨isDig_nil, by simp, ?_⟩, by rw [splice_nil]; exact HG.out, only_refl _ _⟩
      have hN := HN.out
      rw [List.drop_of_length_le (by have := HTOP.out; omega)]; rfl
    case round =>
      obtain ⟨k, L, os, hk, rfl, rfl, hL, hv, hb⟩ := hrel
      rcases k with _ | j
      · have h3 := hv.out.2.2
        rw [List.drop_zero] at h3
        obtain ⟨e1, e2⟩ := HF.out os L hL h3
        have HE := Lib.hid (And.intro e1 e2)
        clear h3 e1 e2
        go_wp2
        go_ret
        exact ⟨os, by rw [← HE.out.2]; rfl, by have := hv.out.2.1; omega, hv.out.1, HE.out.1, hb.out.1, hb.out.2⟩
      · have e : ((j + 1 : Nat) : Int) - 1 = (j : Int) := by omega
        rw [e]
        clear e
        have hN := HN.out
        have hj : j < n := by omega
        obtain ⟨b, p, rfl, hcell⟩ := HRD.out wr (j + 1) os hv.out.2.1 hb.out.1 hb.out.2 j (by omega)
        have hx1 := getD_lt HD.out j
        obtain ⟨s1, s2, s3⟩ := byDigit_step hL hx1 hv.out.2.2
        have hlen : (splice ds (o + (j + 1)) os).length = ds.length := by rw [splice_len (by have := hv.out.2.1; omega)]
        have g1 := hb.out.1.cell (i := o + j) (by omega)
        have g2 := hb.out.1.frozen (o + j)
        obtain ⟨x, hx⟩ : ∃ d, d = xs.getD j 0 := ⟨_, rfl⟩
        rw [← hx] at hcell hx1 s1 s2 s3
        obtain ⟨q, hq⟩ : ∃ s, s = (L * 4294967296 + x) / d := ⟨_, rfl⟩
        obtain ⟨r, hrr⟩ : ∃ s, s = (L * 4294967296 + x) % d := ⟨_, rfl⟩
        have HA := Lib.hid fun W => Bits.div32 L x d q r W hx1 hd hL hq hrr
        rw [← hq] at s2
        rw [← hq, ← hrr] at s1
        rw [← hrr] at s3
        have hset := hb.out.1.set (i := o + j) (d := q) (by omega) s2
        have e1 := splice_set_down (ds := ds) (j := o + j) (d := q) (outs := os) (by omega)
        rw [← Nat.add_assoc] at hset
        rw [e1] at hset
        obtain ⟨z, hz⟩ : ∃ d, d = (splice ds (o + (j + 1)) os).getD (o + j) 0 := ⟨_, rfl⟩
        rw [← hz] at g1
        have HS := Lib.hid (And.intro s1 (And.intro hset (only_set (i := o + j) hb.out.2 (.int .u32 (q : Int)))))
        clear hx hq hrr s1 hset e1 hz hlen hN
        go_wp2_with (go_at_call 114; (with_reducible refine (HA.out _).mono ?_); rintro e w1 ⟨rfl, nn, rfl⟩)
        go_roundw
        case rel => exact ⟨j, r, q :: os, by omega, rfl, rfl, s3, ⟨isDig_cons s2 hv.out.1, by have := hv.out.2.1; simp; omega, HS.out.1⟩, HS.out.2.1, only_set (only_drewN hb.out.2 nn) _⟩
        case measure => simp [intOf] <;> omega
  · obtain ⟨hn1, hn2⟩ := hn
    have hle : n < m := by omega
    obtain ⟨b0, p0, rfl, hc0⟩ := htop hle
    have hm1 : (m : Int) - 1 = (n : Int) := by omega
    obtain ⟨x0, hx0⟩ : ∃ x, x = xs.getD n 0 := ⟨_, rfl⟩
    rw [← hx0] at hc0 hn2
    have HX0 := Lib.hid hx0
    clear htop hx0 hn1
    go_enter Tryz.func103, Tryz.ntmps103
    go_wp2
    go_loopw [7, 8] (fun l i wr => ∃ (k L : Nat) (os : List Nat), k ≤ n ∧ i = .int .i64 ((k : Int) - 1) ∧ l = .int .u32 L ∧ L < d ∧ Hid (IsDig os ∧ k + os.length = n ∧ num (xs.drop k) = d * num os + L) ∧ Hid (Blk wr g (splice ds (o + k) os) ∧ w.grownBy wr (some g))) (fun _ i _ => (intOf i + 1).toNat)
    case atStart =>
      refine ⟨n, x0, [], Nat.le_refl _, by go_num, rfl, hn2, ⟨isDig_nil, by simp, ?_⟩, by rw [splice_nil]; exact HG.out, only_refl _ _⟩
      have hN := HN.out
      rw [num_drop, List.drop_of_length_le (by have := HTOP.out; omega), ← HX0.out]; simp [num]
    case round =>
      obtain ⟨k, L, os, hk, rfl, rfl, hL, hv, hb⟩ := hrel
      rcases k with _ | j
      · have h3 := hv.out.2.2
        rw [List.drop_zero] at h3
        obtain ⟨e1, e2⟩ := HF.out os L hL h3
        have HE := Lib.hid (And.intro e1 e2)
        clear h3 e1 e2
        go_wp2
        go_ret
        exact ⟨os, by rw [← HE.out.2]; rfl, by have := hv.out.2.1; omega, hv.out.1, HE.out.1, hb.out.1, hb.out.2⟩
      · have e : ((j + 1 : Nat) : Int) - 1 = (j : Int) := by omega
        rw [e]
        clear e
        have hN := HN.out
        have hj : j < n := by omega
        obtain ⟨b, p, eA, hcell⟩ := HRD.out wr (j + 1) os hv.out.2.1 hb.out.1 hb.out.2 j (by omega)
        injection eA with eA
        injection eA with eA1 eA2
        subst eA1 eA2
        have hx1 := getD_lt HD.out j
        obtain ⟨s1, s2, s3⟩ := byDigit_step hL hx1 hv.out.2.2
        have hlen : (splice ds (o + (j + 1)) os).length = ds.length := by rw [splice_len (by have := hv.out.2.1; omega)]
        have g1 := hb.out.1.cell (i := o + j) (by omega)
        have g2 := hb.out.1.frozen (o + j)
        obtain ⟨x, hx⟩ : ∃ d, d = xs.getD j 0 := ⟨_, rfl⟩
        rw [← hx] at hcell hx1 s1 s2 s3
        obtain ⟨q, hq⟩ : ∃ s, s = (L * 4294967296 + x) / d := ⟨_, rfl⟩
        obtain ⟨r, hrr⟩ : ∃ s, s = (L * 4294967296 + x) % d := ⟨_, rfl⟩
        have HA := Lib.hid fun W => Bits.div32 L x d q r W hx1 hd hL hq hrr
        rw [← hq] at s2
        rw [← hq, ← hrr] at s1
        rw [← hrr] at s3
        have hset := hb.out.1.set (i := o + j) (d := q) (by omega) s2
        have e1 := splice_set_down (ds := ds) (j := o + j) (d := q) (outs := os) (by omega)
        rw [← Nat.add_assoc] at hset
        rw [e1] at hset
        obtain ⟨z, hz⟩ : ∃ d, d = (splice ds (o + (j + 1)) os).getD (o + j) 0 := ⟨_, rfl⟩
        rw [← hz] at g1
        have HS := Lib.hid (And.intro s1 (And.intro hset (only_set (i := o + j) hb.out.2 (.int .u32 (q : Int)))))
        clear hx hq hrr s1 hset e1 hz hlen hN
        go_wp2_with (go_at_call 114; (with_reducible refine (HA.out _).mono ?_); rintro e w1 ⟨rfl, nn, rfl⟩)
        go_roundw
        case rel => exact ⟨j, r, q :: os, by omega, rfl, rfl, s3, ⟨isDig_cons s2 hv.out.1, by have := hv.out.2.1; simp; omega, HS.out.1⟩, HS.out.2.1, only_set (only_drewN hb.out.2 nn) _⟩
        case measure => simp [intOf] <;> omega

/-- a part of a slice from a place on -/
theorem row_tail {w : World} {b o n c k : Nat} {xs : List Nat} (h : Row w (.slice (some ⟨b, o, none⟩) n c) xs) (hk : k ≤ n) : Row w (.slice (some ⟨b, o + k, none⟩) (n - k) (c - k)) (xs.drop k) := by
  obtain ⟨hd, A, c', e, hc, hcap⟩ := h
  injection e with e1 e2 e3
  subst e1
  refine ⟨isDig_drop hd k, some ⟨b, o + k, none⟩, c - k, by rw [List.length_drop, ← e2], fun hl => ⟨b, o + k, rfl, fun i hi => ?_⟩, by rw [List.length_drop]; omega⟩
  rw [List.length_drop] at hl hi
  obtain ⟨b', o', e4, hcc⟩ := hc (by omega)
  injection e4 with e4
  injection e4 with e5 e6
  subst e5 e6
  have := hcc (k + i) (by omega)
  rw [Nat.add_assoc, this]
  simp [List.getD, List.getElem?_drop]

set_option maxRecDepth 100000 in
theorem quotientLength_any (va vb : Value) (xs ys : List Nat) (w : World) (hx : Row w va xs) (hy : Row w vb ys) (lx : xs.length ≤ 10000) (hle : ys.length ≤ xs.length) (h0 : ys.length ≠ 0) :
    Calls Tryz.prog 112 #[va, vb] w fun e w' => e = .returned (.int .i64 ((qlen xs ys : Nat) : Int)) ∧ ∃ n, w' = w.drewN n := by
  have HX := Lib.hid hx
  have HY := Lib.hid hy
  obtain ⟨dx, A, cA, rfl, hcx, hcap⟩ := hx
  obtain ⟨dy, B, cB, rfl, hcy, -⟩ := hy
  obtain ⟨b, o, rfl, -⟩ := hcx (by omega)
  obtain ⟨n, hn⟩ : ∃ n, n = xs.length := ⟨_, rfl⟩
  obtain ⟨m, hm⟩ : ∃ n, n = ys.length := ⟨_, rfl⟩
  obtain ⟨l, hl⟩ : ∃ l, l = n - m := ⟨_, rfl⟩
  rw [← hn] at HX lx hle hcap ⊢
  rw [← hm] at HY hle h0 ⊢
  have hlm : n - l = m := by omega
  have hC := Lib.hid fun (W : World) (h : Row W (.slice (some ⟨b, o, none⟩) n cA) xs) (h2 : Row W (.slice B m cB) ys) => compare_any (.slice (some ⟨b, o + l, none⟩) (n - l) (cA - l)) (.slice B m cB) (xs.drop l) ys W (row_tail h (by omega)) h2 (by simp; omega) (by omega)
  have hq : qlen xs ys = if 0 ≤ cmpL (xs.drop l) ys then l + 1 else l := by unfold qlen; rw [← hn, ← hm, ← hl]
  obtain ⟨C, hCC⟩ : ∃ c, c = cmpL (xs.drop l) ys := ⟨_, rfl⟩
  rw [← hCC] at hC hq
  have li : (n : Int) - (m : Int) = (l : Int) := by omega
  have l1 : (0 : Int) ≤ (l : Int) := by omega
  have l2 : (l : Int) ≤ (n : Int) := by omega
  have l3 : cA ≠ l := by omega
  obtain ⟨Q, hQ⟩ : ∃ q, q = qlen xs ys := ⟨_, rfl⟩
  rw [← hQ] at hq ⊢
  rw [hlm] at hC
  clear dx dy hcx hcy hn hm hl hCC hQ h0
  by_cases hc : 0 ≤ C
  · rw [if_pos hc] at hq
    subst hq
    go_enter Tryz.func112, Tryz.ntmps112
    go_wp2_with (go_at_call 100; (with_reducible refine (hC.out _ HX.out HY.out).mono ?_); rintro e w1 ⟨rfl, nn, rfl⟩)
    go_ret
    exact ⟨rfl, nn, rfl⟩
  · rw [if_neg hc] at hq
    have hc2 : C < 0 := by omega
    subst hq
    clear hc
    go_enter Tryz.func112, Tryz.ntmps112
    go_wp2_with (go_at_call 100; (with_reducible refine (hC.out _ HX.out HY.out).mono ?_); rintro e w1 ⟨rfl, nn, rfl⟩)
    go_ret
    exact ⟨rfl, nn, rfl⟩
end Go.Proofs.YtbbemgeinlehmaaGreatDoor.Nat02

namespace Go.Proofs.YtbbemgeinlehmaaGreatDoor.Nat02
open Go.RowKit
set_option linter.unusedVariables false
open Go.Proofs.YtbbemgeinlehmaaGreatDoor.Dig

theorem splice_again {ds outs : List Nat} {o c d : Nat} (h : o + outs.length < ds.length) : (splice ds o (outs ++ [c])).set (o + outs.length) d = splice ds o (outs ++ [d]) := by
  rw [← splice_set h, List.set_set, splice_set h]
theorem join32 {a b i : Nat} (hb : b < 4294967296) (hi : i ≤ 32) (hx : a % 2 ^ i = 0) (ha : a < 4294967296) (hy : b < 2 ^ i) : bits .or .u32 (b : Int) (a : Int) = ((b + a : Nat) : Int) := by
  rw [u32_or_nat b a hb ha, Nat.or_comm, nat_join i a b hx hy, Nat.add_comm]

theorem or_cast {t x s r B : Nat} (h : x * 2 ^ s % 4294967296 = B) (hb : bits .or .u32 (t : Int) (B : Int) = (r : Int)) : bits .or .u32 (t : Int) ((x : Int) * 2 ^ s % 4294967296) = (r : Int) := by
  rw [← hb, ← h]; simp
theorem shr_cast {x s r : Nat} (h : x / 2 ^ s = r) : (x : Int) / 2 ^ s = (r : Int) := by
  rw [← h]; simp

/-- a number shifted up, in a new block -/
def RetUp (xs : List Nat) (s : Nat) (w : World) (e : Ending) (w' : World) : Prop :=
  ∃ (g : Nat) (rs : List Nat), e = .returned (.slice (some ⟨g, 0, none⟩) (xs.length + 1) (xs.length + 1)) ∧ w.heap.size ≤ g ∧ Blk w' g rs ∧ rs.length = xs.length + 1 ∧ num rs = num xs * 2 ^ s ∧ Since w w'

set_option maxRecDepth 100000 in
set_option maxHeartbeats 4000000 in
theorem shiftUp_any (v : Value) (xs : List Nat) (s : Nat) (w : World) (h : Row w v xs) (hl : xs.length ≤ 10000) (hs : s ≤ 31) :
    Calls Tryz.prog 121 #[v, .int .u64 (s : Int)] w (RetUp xs s w) := by
  have H := Lib.hid h
  obtain ⟨hd, A, c, rfl, hc, -⟩ := h
  have HC := Lib.hid hc
  have HD := Lib.hid hd
  obtain ⟨n, hn⟩ : ∃ n, n = xs.length := ⟨_, rfl⟩
  have hm := make_digits (n + 1) (by omega)
  rw [← hn] at hl ⊢
  have HN := Lib.hid hn
  have hm' : ∀ W : World, (Instr.makeSlice 22 (.int .i64 ((n : Int) + 1)) (.int .i64 ((n : Int) + 1))).run Tryz.prog W = .ok (.slice (some ⟨W.heap.size, 0, none⟩) (n + 1) (n + 1)) (W.alloc (.cells (madeCells #[.int .u32 0] (n + 1)) 88)) := fun W => hm W
  clear hc hd hn hm
  go_enter Tryz.func121, Tryz.ntmps121
  go_wp2
  go_loopw [13] (fun i wr => ∃ (k t : Nat) (outs : List Nat), k ≤ n ∧ i = .int .i64 k ∧ Hid (outs.length = k ∧ IsDig outs ∧ t < 2 ^ s ∧ num outs + 4294967296 ^ k * t = num (xs.take k) * 2 ^ s) ∧ Hid (Blk wr w.heap.size (splice (List.replicate (n + 1) 0) 0 (outs ++ [t]))) ∧ Since w wr) (fun i _ => n - (intOf i).toNat)
  case atStart => exact ⟨0, 0, [], by omega, rfl, ⟨rfl, isDig_nil, Nat.pow_pos (by omega), by simp [num]⟩, by
    have e : splice (List.replicate (n + 1) 0) 0 ([] ++ [0]) = List.replicate (n + 1) 0 := by simp [splice, List.replicate_succ]
    rw [e]
    exact Blk.made w (n + 1), since_made w _ _⟩
  case round =>
    obtain ⟨k, t, outs, hk, rfl, hv, hb, hw⟩ := hrel
    by_cases hlt : k < n
    · have hN := HN.out
      have hj : k < xs.length := by omega
      obtain ⟨b, o, rfl, hcc⟩ := HC.out (by omega)
      have hcell := (Below.cell hw (World.block_lt_of_cell? _ _ (hcc k hj))).trans (hcc k hj)
      have hb1 : b ≠ w.heap.size := by have := World.block_lt_of_cell? _ _ (hcc k hj); simp at this; omega
      have hx1 := getD_lt HD.out k
      obtain ⟨s1, s2, s3, s4⟩ := shiftUp_step hs hx1 hv.out.1 hv.out.2.2.1 hv.out.2.2.2
      have hlen : (splice (List.replicate (n + 1) 0) 0 (outs ++ [t])).length = n + 1 := by rw [splice_len (by simp; have := hv.out.1; omega)]; simp
      have g1 := hb.out.cell (i := k) (by omega)
      have g2 := hb.out.frozen k
      have e0 : (splice (List.replicate (n + 1) 0) 0 (outs ++ [t])).getD k 0 = t := by
        have := splice_getD_mid (ds := List.replicate (n + 1) 0) (o := 0) (i := k) (outs := outs ++ [t]) (by simp; have := hv.out.1; omega) (by omega)
        rw [Nat.zero_add] at this
        rw [this, ← hv.out.1]; simp [List.getD]
      rw [e0] at g1
      obtain ⟨x, hx⟩ : ∃ d, d = xs.getD k 0 := ⟨_, rfl⟩
      rw [← hx] at hcell hx1 s1 s2 s3 s4
      obtain ⟨lo, hlo⟩ : ∃ l, l = t + x * 2 ^ s % 4294967296 := ⟨_, rfl⟩
      obtain ⟨hi, hhi⟩ : ∃ l, l = x / 2 ^ (32 - s) := ⟨_, rfl⟩
      rw [← hlo] at s1 s3
      rw [← hhi] at s1 s2
      have g3 := hb.out.cell (i := k + 1) (by omega)
      have g4 := hb.out.frozen (k + 1)
      obtain ⟨z, hz⟩ : ∃ d, d = (splice (List.replicate (n + 1) 0) 0 (outs ++ [t])).getD (k + 1) 0 := ⟨_, rfl⟩
      rw [← hz] at g3
      have hA : ∀ u, (wr.setCell ⟨w.heap.size, k, none⟩ u).cell? ⟨b, o + k, none⟩ = some (.int .u32 (x : Int)) := fun u => cell_far hcell hb1 u
      have hB : ∀ u, (wr.setCell ⟨w.heap.size, k, none⟩ u).cell? ⟨w.heap.size, k + 1, none⟩ = some (.int .u32 (z : Int)) := fun u => (World.cell?_setCell_other wr _ _ u (by simp)).trans g3
      clear hz
      have i1 : (0 : Int) ≤ (k : Int) := by omega
      have i2 : (k : Int) < (n : Int) := by omega
      have i3 : (k : Int) < (n : Int) + 1 := by omega
      have hE1 : bits .or .u32 (t : Int) ((x : Int) * 2 ^ s % 4294967296) = (lo : Int) := or_cast rfl (by
        rw [hlo]
        exact join32 (i := s) (by have := Nat.pow_le_pow_right (n := 2) (by omega) (show s ≤ 31 by omega); have := hv.out.2.2.1; omega) (by omega) (by rw [s4]; exact Nat.mul_mod_right _ _) (Nat.mod_lt _ (by omega)) hv.out.2.2.1)
      have hE2 : (x : Int) / 2 ^ (32 - s) = (hi : Int) := shr_cast hhi.symm
      have e9 : num (xs.take (k + 1)) * 2 ^ s = num (xs.take (k + 1)) * 2 ^ s := rfl
      have hst1 := hb.out.set (i := k) (d := lo) (by omega) s3
      have e1 := splice_again (ds := List.replicate (n + 1) 0) (o := 0) (c := t) (d := lo) (outs := outs) (by simp; have := hv.out.1; omega)
      rw [hv.out.1, Nat.zero_add] at e1
      rw [e1] at hst1
      have hhi1 : hi < 4294967296 := by
        have := Nat.pow_le_pow_right (n := 2) (by omega) (show s ≤ 31 by omega); omega
      have hst2 := hst1.set (i := k + 1) (d := hi) (by rw [splice_len (by simp; have := hv.out.1; omega)]; simp; omega) hhi1
      have e2 := splice_set (ds := List.replicate (n + 1) 0) (o := 0) (d := hi) (outs := outs ++ [lo]) (by simp; have := hv.out.1; omega)
      rw [List.length_append, hv.out.1, Nat.zero_add] at e2
      have e3 : (splice (List.replicate (n + 1) 0) 0 (outs ++ [lo])).set (k + 1) hi = splice (List.replicate (n + 1) 0) 0 (outs ++ [lo] ++ [hi]) := e2
      rw [e3] at hst2
      have HS := Lib.hid (And.intro s1 (And.intro s2 (And.intro s3 hst2)))
      clear hcc hx s1 s2 s3 s4 hlen e0 hj hN hlo hhi e9 hst1 e1 e2 e3 hst2 hhi1
      go_wp2
      go_region_with (fail)
      all_goals
        go_wp2
        go_roundw
        case rel => exact ⟨k + 1, hi, outs ++ [lo], by omega, by go_num, ⟨by rw [List.length_append, hv.out.1]; rfl, isDig_snoc hv.out.2.1 HS.out.2.2.1, HS.out.2.1, HS.out.1⟩, HS.out.2.2.2, Since.drew (Since.set (Since.set hw (Nat.le_refl _) _) (Nat.le_refl _) _)⟩
        case measure => simp [intOf]; omega
    · obtain rfl : k = n := by omega
      have hN := HN.out
      have h3 := hv.out.2.2.2
      rw [List.take_of_length_le (by omega : xs.length ≤ k)] at h3
      have hp := Nat.pow_le_pow_right (n := 2) (by omega) (show s ≤ 31 by omega)
      have e := splice_zero_end (n := k + 1) (ds := outs ++ [t]) (by simp; exact hv.out.1)
      have hb2 := hb.out
      rw [e] at hb2
      have h4 := num_snoc outs t
      rw [hv.out.1, h3] at h4
      have HS := Lib.hid (And.intro hb2 (And.intro h4 hN))
      clear hN h3 hp e hb2 h4
      go_wp2
      go_ret
      exact ⟨w.heap.size, outs ++ [t], by rw [← HS.out.2.2]; rfl, Nat.le_refl _, HS.out.1, by rw [← HS.out.2.2]; simp; exact hv.out.1, HS.out.2.1, hw⟩

set_option maxRecDepth 100000 in
set_option maxHeartbeats 4000000 in
theorem shiftDown_any (g : Nat) (ds : List Nat) (s : Nat) (w : World) (h : Blk w g ds) (hl : ds.length ≤ 10000) (hs : s ≤ 31) :
    Calls Tryz.prog 123 #[.slice (some ⟨g, 0, none⟩) ds.length ds.length, .int .u64 (s : Int)] w fun e w' => e = .returned (.tuple #[]) ∧ ∃ rs, rs.length = ds.length ∧ num rs = num ds / 2 ^ s ∧ Blk w' g rs ∧ w.grownBy w' (some g) := by
  have HG := Lib.hid h
  have HD := Lib.hid h.dig
  obtain ⟨n, hn⟩ : ∃ n, n = ds.length := ⟨_, rfl⟩
  rw [← hn] at hl ⊢
  have HN := Lib.hid hn
  clear h hn
  go_enter Tryz.func123, Tryz.ntmps123
  go_wp2
  go_loopw [7] (fun i wr => ∃ (k : Nat) (outs : List Nat), k ≤ n ∧ i = .int .i64 k ∧ Hid (outs.length = k ∧ IsDig outs ∧ num outs = num ds / 2 ^ s % 4294967296 ^ k) ∧ Hid (Blk wr g (splice ds 0 outs) ∧ w.grownBy wr (some g))) (fun i _ => n - (intOf i).toNat)
  case atStart => exact ⟨0, [], by omega, rfl, ⟨rfl, isDig_nil, by simp [num, Nat.mod_one]⟩, by rw [splice_nil]; exact HG.out, only_refl _ _⟩
  case round =>
    obtain ⟨k, outs, hk, rfl, hv, hb⟩ := hrel
    by_cases hlt : k < n
    · have hN := HN.out
      have hx1 := getD_lt HD.out k
      have hy1 := getD_lt HD.out (k + 1)
      obtain ⟨s1, s2, s3, s4⟩ := shiftDown_step HD.out hs (by omega : k < ds.length) hv.out.1 hv.out.2.2
      have hlen : (splice ds 0 outs).length = n := by rw [splice_len (by have := hv.out.1; omega)]; exact hN.symm
      have g1 := hb.out.1.cell (i := k) (by omega)
      have g2 := hb.out.1.frozen k
      rw [splice_getD_ge (by have := hv.out.1; omega) (by omega)] at g1
      have hy0 : ¬ k + 1 < n → ds.getD (k + 1) 0 = 0 := fun h => getD_ge (by omega)
      have g3 : k + 1 < n → wr.cell? ⟨g, k + 1, none⟩ = some (.int .u32 ((ds.getD (k + 1) 0 : Nat) : Int)) := fun h => by
        have := hb.out.1.cell (i := k + 1) (by omega)
        rwa [splice_getD_ge (by have := hv.out.1; omega) (by omega)] at this
      obtain ⟨x, hx⟩ : ∃ d, d = ds.getD k 0 := ⟨_, rfl⟩
      obtain ⟨y, hy⟩ : ∃ d, d = ds.getD (k + 1) 0 := ⟨_, rfl⟩
      rw [← hx, ← hy] at s1 s3
      rw [← hx] at g1 hx1 s2
      rw [← hy] at g3 hy1 s4 hy0
      obtain ⟨lo, hlo⟩ : ∃ l, l = x / 2 ^ s := ⟨_, rfl⟩
      obtain ⟨r, hr⟩ : ∃ l, l = x / 2 ^ s + y * 2 ^ (32 - s) % 4294967296 := ⟨_, rfl⟩
      have hrl : r = lo + y * 2 ^ (32 - s) % 4294967296 := by rw [hr, hlo]
      rw [← hr] at s1 s3
      rw [← hlo] at s2
      have hlo1 : lo < 4294967296 := by omega
      have hE1 : (x : Int) / 2 ^ s = (lo : Int) := shr_cast hlo.symm
      have hst1 := hb.out.1.set (i := k) (d := lo) (by omega) hlo1
      have e1 := splice_set (ds := ds) (o := 0) (d := lo) (outs := outs) (by have := hv.out.1; omega)
      rw [hv.out.1, Nat.zero_add] at e1
      rw [e1] at hst1
      have hon1 := only_set (i := k) hb.out.2 (.int .u32 (lo : Int))
      by_cases hlt2 : k + 1 < n
      · have hE2 : bits .or .u32 (lo : Int) ((y : Int) * 2 ^ (32 - s) % 4294967296) = (r : Int) := or_cast rfl (by
          rw [hrl]
          exact join32 (i := 32 - s) hlo1 (by omega) (by rw [s4]; exact Nat.mul_mod_right _ _) (Nat.mod_lt _ (by omega)) s2)
        have hst2 := hst1.set (i := k) (d := r) (by rw [splice_len (by simp; have := hv.out.1; omega)]; omega) s3
        have e2 := splice_again (ds := ds) (o := 0) (c := lo) (d := r) (outs := outs) (by have := hv.out.1; omega)
        rw [hv.out.1, Nat.zero_add] at e2
        rw [e2] at hst2
        have hon2 := only_set (i := k) hon1 (.int .u32 (r : Int))
        have f1 := hst1.cell (i := k) (by rw [splice_len (by simp; have := hv.out.1; omega)]; omega)
        have e5 : (splice ds 0 (outs ++ [lo])).getD k 0 = lo := by
          have := splice_getD_mid (ds := ds) (o := 0) (i := k) (outs := outs ++ [lo]) (by simp; have := hv.out.1; omega) (by omega)
          rw [Nat.zero_add] at this
          rw [this, ← hv.out.1]; simp [List.getD]
        rw [e5] at f1
        have g3' := g3 hlt2
        have f2 : (wr.setCell ⟨g, k, none⟩ (.int .u32 (lo : Int))).cell? ⟨g, k + 1, none⟩ = some (.int .u32 (y : Int)) := (World.cell?_setCell_other wr _ _ _ (by simp)).trans g3'
        have HS := Lib.hid (And.intro s1 (And.intro s3 (And.intro hst2 hon2)))
        have i1 : (0 : Int) ≤ (k : Int) := by omega
        have i2 : (k : Int) < (n : Int) := by omega
        have i3 : (k : Int) + 1 < (n : Int) := by omega
        have i4 : (0 : Int) ≤ (k : Int) + 1 := by omega
        have i8 : IntKind.i64.wrap ((k : Int) + 1) = (k : Int) + 1 := IntWalk.i64_in _ (by omega)
        have i9 : ((k : Int) + 1).toNat = k + 1 := by omega
        have hmin : bits .or .u32 (lo : Int) ((y : Int) * 2 ^ min (32 - s) 32 % 4294967296) = (r : Int) := by rw [Nat.min_eq_left (by omega)]; exact hE2
        clear hx hy s1 s2 s3 s4 hlen hN hlo hr hrl hst1 e1 hon1 hst2 e2 hon2 e5 hy0 g3
        go_wp2
        go_region_with (fail)
        all_goals
          go_wp2
          go_roundw
          case rel =>
            rw [hmin]
            exact ⟨k + 1, outs ++ [r], by omega, by go_num, ⟨by rw [List.length_append, hv.out.1]; rfl, isDig_snoc hv.out.2.1 HS.out.2.1, HS.out.1⟩, HS.out.2.2.1, only_drew HS.out.2.2.2⟩
          case measure => simp [intOf]; omega
      · have hy00 := hy0 hlt2
        have hrlo : r = lo := by rw [hrl, hy00]; simp
        rw [hrlo] at s1
        have HS := Lib.hid (And.intro s1 (And.intro hlo1 (And.intro hst1 hon1)))
        have i3 : (n : Int) ≤ (k : Int) + 1 := by omega
        clear hx hy s1 s2 s3 s4 hlen hN hlo hr hrl hst1 e1 hon1 hy0 g3 hy00 hrlo
        go_wp2
        go_roundw
        case rel => exact ⟨k + 1, outs ++ [lo], by omega, by go_num, ⟨by rw [List.length_append, hv.out.1]; rfl, isDig_snoc hv.out.2.1 HS.out.2.1, HS.out.1⟩, HS.out.2.2.1, HS.out.2.2.2⟩
        case measure => simp [intOf]; omega
    · obtain rfl : k = n := by omega
      have hN := HN.out
      have h3 := hv.out.2.2
      rw [hN] at h3
      have h4 := shiftDown_end HD.out h3
      have e : splice ds 0 outs = outs := by
        unfold splice
        rw [List.drop_of_length_le (by have := hv.out.1; omega)]; simp
      have hb2 := hb.out
      rw [e] at hb2
      have HS := Lib.hid (And.intro hb2 h4)
      clear hN h3 e hb2 h4
      go_wp2
      go_end0
      exact ⟨rfl, outs, hv.out.1, HS.out.2, HS.out.1.1, HS.out.1.2⟩
end Go.Proofs.YtbbemgeinlehmaaGreatDoor.Nat02
