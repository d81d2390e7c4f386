/- What Mul of package nat gives back. -/
import Derived.Test.YtkceldnljppflaaDoorN2f
import Derived.IntWalk
namespace Go.Proofs.YtkceldnljppflaaDoor.Nat02
open Go.RowKit
set_option linter.unusedVariables false
open Go.Proofs.YtkceldnljppflaaDoor.Dig

/-- a step of the product: the digits P hold what has been added up, the others are noughts -/
theorem mul_step {P O ys : List Nat} {i n L c d s : Nat} (dP : IsDig P) (lP : P.length = L) (hL : i + n < L) (lO : O.length = n) (dO : IsDig O) (hc : c < 4294967296) (hz : num (P.drop (i + n)) = 0)
    (hO : num O + 4294967296 ^ n * c = num ((P.drop i).take n) + num ys * d) (hP : num P = s * num ys) :
    num ((splice P i O).set (i + n) c) = (s + 4294967296 ^ i * d) * num ys ∧ num (((splice P i O).set (i + n) c).drop (i + 1 + n)) = 0 := by
  have e1 := splice_set (ds := P) (o := i) (d := c) (outs := O) (by omega)
  rw [lO] at e1
  rw [e1]
  have lO2 : (O ++ [c]).length = n + 1 := by simp [lO]
  have en := num_splice (ds := P) (o := i) (outs := O ++ [c]) (by omega)
  have ed := drop_splice (ds := P) (o := i) (outs := O ++ [c]) (by omega)
  have hz2 : num (P.drop (i + (n + 1))) = 0 := by
    have := num_drop P (i + n)
    rw [hz] at this
    rw [show i + (n + 1) = i + n + 1 by omega]; omega
  rw [lO2, hz2, Nat.mul_zero, Nat.add_zero, num_snoc, lO, hO] at en
  refine ⟨?_, ?_⟩
  · have h1 := num_split P (j := i) (by omega)
    have h2 := num_split (P.drop i) (j := n) (by simp; omega)
    rw [List.drop_drop, hz, Nat.mul_zero, Nat.add_zero] at h2
    rw [h2] at h1
    rw [en]
    rw [hP] at h1
    grind
  · have : (splice P i (O ++ [c])).drop (i + 1 + n) = P.drop (i + (n + 1)) := by
      have h3 : (splice P i (O ++ [c])).drop (i + 1 + n) = ((splice P i (O ++ [c])).drop i).drop (n + 1) := by rw [List.drop_drop]; congr 1; omega
      rw [h3, ed, List.drop_append_of_le_length (by omega), lO2, List.drop_of_length_le (by omega), List.nil_append]
    rw [this, hz2]

set_option maxRecDepth 100000 in
set_option maxHeartbeats 4000000 in
theorem mul_good (vx vy : Value) (xs ys : List Nat) (w : World) (hx : Row w vx xs) (hy : Row w vy ys) (rx : rightB xs = true) (ry : rightB ys = true) :
    Calls Tryd.prog 26 #[vx, vy] w (RetRowErr (fitD (num xs * num ys)).1 (fitD (num xs * num ys)).2 w) := by
  have HX := Lib.hid hx
  have HY := Lib.hid hy
  have nx := right_norm rx
  have ny := right_norm ry
  obtain ⟨dx, A, cA, rfl, hcx, -⟩ := hx
  obtain ⟨dy, B, cB, rfl, hcy, -⟩ := hy
  have HC := Lib.hid (And.intro hcx hcy)
  have HD := Lib.hid (And.intro dx dy)
  have HR := Lib.hid (And.intro rx ry)
  have HNM := Lib.hid (And.intro nx ny)
  obtain ⟨n, hn⟩ : ∃ n, n = xs.length := ⟨_, rfl⟩
  obtain ⟨m, hm⟩ : ∃ n, n = ys.length := ⟨_, rfl⟩
  have hn1 : n ≤ 256 := by omega
  have hm1 : m ≤ 256 := by omega
  rw [← hn] at HX ⊢
  rw [← hm] at HY ⊢
  have HN := Lib.hid (And.intro hn hm)
  clear hcx hcy dx dy nx ny hn hm rx ry
  by_cases hbig : 257 < n + m
  · have e : fitD (num xs * num ys) = ([], 3) := by
      rw [fitD, if_neg]
      have hN := HN.out
      have h1 := norm_ge HNM.out.1.2 (by omega)
      have h2 := norm_ge HNM.out.2.2 (by omega)
      have h3 : 4294967296 ^ (xs.length - 1) * 4294967296 ^ (ys.length - 1) ≤ num xs * num ys := Nat.mul_le_mul h1 h2
      rw [← Nat.pow_add] at h3
      have := digs_len_gt h3
      omega
    rw [e]
    clear e
    have hbig' : (257 : Int) < (n : Int) + (m : Int) := by omega
    go_enter Tryd.func26, Tryd.ntmps26
    go_wp2_with (first
      | (go_at_call 17; (with_reducible refine (right_yes (.slice A n cA) xs _ HX.out (by have := HN.out; omega)).mono ?_); rw [HR.out.1]; rintro e w1 ⟨rfl, rfl⟩)
      | (go_at_call 17; (with_reducible refine (right_yes (.slice B m cB) ys _ HY.out (by have := HN.out; omega)).mono ?_); rw [HR.out.2]; rintro e w1 ⟨rfl, rfl⟩))
    go_ret2
    exact ⟨_, rfl, Row.nil _, Since.refl _⟩
  · obtain ⟨L, hL⟩ : ∃ l : Nat, l = n + m := ⟨_, rfl⟩
    have hLi : (n : Int) + (m : Int) = (L : Int) := by omega
    have hL1 : L ≤ 257 := by omega
    have hnL : n ≤ L := by omega
    have hmL : m ≤ L := by omega
    have HL := Lib.hid hL
    have hmk := make_digits L (by omega)
    clear hbig hL
    go_enter Tryd.func26, Tryd.ntmps26
    go_wp2_with (first
      | (go_at_call 17; (with_reducible refine (right_yes (.slice A n cA) xs _ HX.out (by have := HN.out; omega)).mono ?_); rw [HR.out.1]; rintro e w1 ⟨rfl, rfl⟩)
      | (go_at_call 17; (with_reducible refine (right_yes (.slice B m cB) ys _ HY.out (by have := HN.out; omega)).mono ?_); rw [HR.out.2]; rintro e w1 ⟨rfl, rfl⟩))
    go_loopw [30] (fun i wr => ∃ (k : Nat) (P : List Nat), k ≤ n ∧ i = .int .i64 k ∧ Hid (P.length = L ∧ num P = num (xs.take k) * num ys ∧ num (P.drop (k + m)) = 0) ∧ Hid (Blk wr w.heap.size P) ∧ Since w wr) (fun i _ => n - (intOf i).toNat)
    case atStart => exact ⟨0, List.replicate L 0, by omega, rfl, ⟨by simp, by rw [num_noughts]; simp [num], by rw [List.drop_replicate, num_noughts]⟩, Blk.made w L, since_made w _ _⟩
    case round =>
      obtain ⟨k, P, hk, rfl, hv, hb, hw⟩ := hrel
      by_cases hlt : k < n
      · have hN := HN.out
        have hLL := HL.out
        have hjx : k < xs.length := by omega
        obtain ⟨b, o, rfl, hcc⟩ := HC.out.1 (by omega)
        have hcell := (Below.cell hw (World.block_lt_of_cell? _ _ (hcc k hjx))).trans (hcc k hjx)
        have hx1 := getD_lt HD.out.1 k
        have ht := num_take_succ xs k
        obtain ⟨x, hx⟩ : ∃ d, d = xs.getD k 0 := ⟨_, rfl⟩
        rw [← hx] at hcell hx1 ht
        have HT := Lib.hid ht
        have hadd := Lib.hid fun (W : World) (h1 : Blk W w.heap.size P) (h2 : Since w W) => addTimes_any w.heap.size k m (L - k) (.slice B m cB) P ys x W h1 (by have := hv.out.1; omega) (HY.out.since h2) (Far.of HY.out (Nat.le_refl _)) (by omega) (by have := hv.out.1; omega) hx1 (by omega)
        have i1 : (0 : Int) ≤ (k : Int) := by omega
        have i2 : (k : Int) < (n : Int) := by omega
        have i3 : (k : Int) + (m : Int) < (L : Int) := by omega
        have i4 : ((L : Int) - (k : Int)) = ((L - k : Nat) : Int) := by omega
        have i5 : (0 : Int) ≤ (k : Int) + (m : Int) := by omega
        have i6 : L ≠ k := by omega
        have i7 : ((k : Int) + (m : Int)).toNat = k + m := by omega
        have hb1 : b ≠ w.heap.size := by have := World.block_lt_of_cell? _ _ (hcc k hjx); simp at this; omega
        clear hcc hx ht hN hLL hjx
        have i8 : IntKind.i64.wrap ((k : Int) + (m : Int)) = (k : Int) + (m : Int) := IntWalk.i64_in _ (by omega)
        have i9 : (k : Int) ≤ (k : Int) + (m : Int) := by omega
        have i10 : (k : Int) + (m : Int) ≤ (L : Int) := by omega
        have i11 : k + m - k = m := by omega
        go_wp2
        go_region_held3 (fun W => W.cell? ⟨b, o + k, none⟩ = some (.int .u32 (x : Int)) ∧ Since w W)
          (first | exact ⟨hcell, Since.drew hw⟩ | exact ⟨cell_grown (W := wr.drew) hcell hgO hb1, only_since (Since.drew hw) hgO (Nat.le_refl _)⟩ | exact ⟨cell_far (cell_grown (W := wr.drew) hcell hgO hb1) hb1 _, Since.set (only_since (Since.drew hw) hgO (Nat.le_refl _)) (Nat.le_refl _) _⟩)
          (first | (go_at_call 47; (with_reducible refine (hadd.out _ (Blk.drew hb.out) (Since.drew hw)).mono ?_); rintro e w1 ⟨c, outs, rfl, hc, hlO, hdO, hvO, hbO, hgO⟩; have HO := Lib.hid (And.intro hlO (And.intro hdO hvO)); clear hlO hdO hvO; have hlen := splice_len (ds := P) (o := k) (outs := outs) (by have := hv.out.1; have := HO.out.1; have := HL.out; omega); have f1 := hbO.cell (i := k + m) (by rw [hlen, hv.out.1]; omega); have f2 := hbO.frozen (k + m); have HLEN := Lib.hid hlen; clear hlen; obtain ⟨z, hz⟩ : ∃ z, z = (splice P k outs).getD (k + m) 0 := ⟨_, rfl⟩; rw [← hz] at f1; clear hz))
        all_goals
          go_wp2
          go_roundw
          case rel =>
            have hst := mul_step hb.out.1 hv.out.1 (by have := HL.out; omega) HO.out.1 HO.out.2.1 hc hv.out.2.2 HO.out.2.2 hv.out.2.1
            refine ⟨k + 1, (splice P k outs).set (k + m) c, by omega, by go_num, ⟨by rw [List.length_set, HLEN.out]; exact hv.out.1, ?_, hst.2⟩, hbO.set (by rw [HLEN.out, hv.out.1]; have := HL.out; omega) hc, Since.set (only_since (Since.drew hw) hgO (Nat.le_refl _)) (Nat.le_refl _) _⟩
            rw [hst.1, HT.out]
          case measure => simp [intOf]; omega
      · obtain rfl : k = n := by omega
        have hv2 := hv.out.2.1
        have hN := HN.out
        rw [List.take_of_length_le (by omega : xs.length ≤ k)] at hv2
        have HCUT := Lib.hid fun W (h : Blk W w.heap.size P) => cut_any w.heap.size P W h (by have := hv.out.1; omega)
        rw [hv2] at HCUT
        simp only [hv.out.1] at HCUT
        obtain ⟨R, hR⟩ : ∃ r, r = digs (num xs * num ys) := ⟨_, rfl⟩
        rw [← hR] at HCUT
        have HR2 := Lib.hid hR
        clear hv2 hN hR
        by_cases hfit : R.length ≤ 256
        · have e : fitD (num xs * num ys) = (R, 0) := by rw [fitD, ← HR2.out, if_pos hfit]
          have HE := Lib.hid e
          clear e
          go_wp2_with (go_at_call 45; (with_reducible refine (HCUT.out _ hb.out).mono ?_); rintro e w1 ⟨g2, rfl, hr2, hs2⟩)
          go_ret2
          exact ⟨_, by rw [HE.out]; rfl, by rw [HE.out]; exact hr2, hw.trans hs2⟩
        · have e : fitD (num xs * num ys) = ([], 3) := by rw [fitD, ← HR2.out, if_neg hfit]
          have HE := Lib.hid e
          have hfit2 : 256 < R.length := by omega
          clear e hfit
          go_wp2_with (go_at_call 45; (with_reducible refine (HCUT.out _ hb.out).mono ?_); rintro e w1 ⟨g2, rfl, hr2, hs2⟩)
          go_ret2
          exact ⟨_, by rw [HE.out]; rfl, by rw [HE.out]; exact Row.nil _, hw.trans hs2⟩
theorem mul_any (va vb : Value) (xs ys : List Nat) (w : World) (hx : Row w va xs) (hy : Row w vb ys) (lx : xs.length ≤ 10000) (ly : ys.length ≤ 10000) :
    Calls Tryd.prog 26 #[va, vb] w (RetRowErr (mulD xs ys).1 (mulD xs ys).2 w) := by
  by_cases r1 : rightB xs = true
  · by_cases r2 : rightB ys = true
    · rw [mulD, if_pos ⟨r1, r2⟩]
      exact mul_good va vb xs ys w hx hy r1 r2
    · have r2' : rightB ys = false := by simpa using r2
      rw [mulD, if_neg (fun h => r2 h.2)]
      have H := Lib.hid (And.intro hx hy)
      clear r2 hx hy
      go_enter Tryd.func26, Tryd.ntmps26
      go_wp2_with (first
        | (go_at_call 17; (with_reducible refine (right_yes va xs _ H.out.1 lx).mono ?_); rintro e w1 ⟨rfl, rfl⟩)
        | (go_at_call 17; (with_reducible refine (right_yes vb ys _ H.out.2 ly).mono ?_); rintro e w1 ⟨rfl, rfl⟩))
      go_ret2
      exact ⟨_, rfl, Row.nil _, Since.refl _⟩
  · have r1' : rightB xs = false := by simpa using r1
    rw [mulD, if_neg (fun h => r1 h.1)]
    have H := Lib.hid hx
    clear r1 hx hy
    go_enter Tryd.func26, Tryd.ntmps26
    go_wp2_with (first
      | (go_at_call 17; (with_reducible refine (right_yes va xs _ H.out lx).mono ?_); rintro e w1 ⟨rfl, rfl⟩))
    go_ret2
    exact ⟨_, rfl, Row.nil _, Since.refl _⟩
end Go.Proofs.YtkceldnljppflaaDoor.Nat02
