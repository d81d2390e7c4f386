/- What Sub of package nat gives back. -/
import Derived.Test.YtkceldnljppflaaDoorN2d
namespace Go.Proofs.YtkceldnljppflaaDoor.Nat02
open Go.RowKit
set_option linter.unusedVariables false
open Go.Proofs.YtkceldnljppflaaDoor.Dig

set_option maxRecDepth 100000 in
set_option maxHeartbeats 4000000 in
theorem sub_good (vx vy : Value) (xs ys : List Nat) (w : World) (hx : Row w vx xs) (hy : Row w vy ys) (rx : rightB xs = true) (ry : rightB ys = true) (hle : num ys ≤ num xs) :
    Calls Tryd.prog 24 #[vx, vy] w (RetRowErr (digs (num xs - num ys)) 0 w) := by
  have HX := Lib.hid hx
  have HY := Lib.hid hy
  have nx := right_norm rx
  have ny := right_norm ry
  have hml : ys.length ≤ xs.length := norm_len_le hx.dig ny.2 hle
  have hcmp : ¬ cmpL xs ys < 0 := fun h => by have := (cmpL_lt hx.dig hy.dig nx.2 ny.2).1 h; omega
  obtain ⟨C, hC⟩ : ∃ s, s = cmpL xs ys := ⟨_, rfl⟩
  rw [← hC] at hcmp
  have hcmp2 : 0 ≤ C := by omega
  obtain ⟨dx, A, cA, rfl, hcx, -⟩ := hx
  obtain ⟨dy, B, cB, rfl, hcy, -⟩ := hy
  have HC := Lib.hid (And.intro hcx hcy)
  have HD := Lib.hid (And.intro dx dy)
  have HR := Lib.hid (And.intro rx (And.intro ry hC))
  obtain ⟨n, hn⟩ : ∃ n, n = xs.length := ⟨_, rfl⟩
  obtain ⟨m, hm⟩ : ∃ n, n = ys.length := ⟨_, rfl⟩
  have hn1 : n ≤ 256 := by omega
  have hm1 : m ≤ n := by omega
  rw [← hn] at HX ⊢
  rw [← hm] at HY ⊢
  have HN := Lib.hid (And.intro hn (And.intro hm hle))
  have hmk := make_digits n (by omega)
  clear hcx hcy dx dy nx ny hn hm rx ry hcmp hC hml hle
  go_enter Tryd.func24, Tryd.ntmps24
  go_wp2_with (first
    | (go_at_call 17; (with_reducible refine (right_yes (.slice A n cA) xs _ HX.out (by have := HN.out; omega)).mono ?_); rw [HR.out.1]; rintro e w1 ⟨rfl, rfl⟩)
    | (go_at_call 17; (with_reducible refine (right_yes (.slice B m cB) ys _ HY.out (by have := HN.out; omega)).mono ?_); rw [HR.out.2.1]; rintro e w1 ⟨rfl, rfl⟩)
    | (go_at_call 35; (with_reducible refine (compare_any (.slice A n cA) (.slice B m cB) xs ys _ HX.out HY.out (by have := HN.out; omega) (by have := HN.out; omega)).mono ?_); rw [← HR.out.2.2]; rintro e w1 ⟨rfl, dn, rfl⟩))
  go_loopw [7, 29] (fun c i wr => ∃ (k t : Nat) (outs : List Nat), k ≤ m ∧ i = .int .i64 k ∧ c = .int .u32 t ∧ t ≤ 1 ∧ Hid (outs.length = k ∧ IsDig outs ∧ num outs + num (ys.take k) = num (xs.take k) + 4294967296 ^ k * t) ∧ Hid (Blk wr w.heap.size (splice (List.replicate n 0) 0 outs)) ∧ Since w wr) (fun _ i _ => m - (intOf i).toNat)
  case atStart => exact ⟨0, 0, [], by omega, rfl, rfl, by omega, ⟨rfl, isDig_nil, by simp [num]⟩, by rw [splice_nil]; exact Blk.made (w.drewN dn) n, ((Since.refl w).drewN dn).alloc _⟩
  case round =>
    obtain ⟨k, t, outs, hk, rfl, rfl, ht, ho, hb, hw⟩ := hrel
    by_cases hlt : k < m
    · have hjx : k < xs.length := by have := HN.out; omega
      have hjy : k < ys.length := by have := HN.out; omega
      obtain ⟨b, o, rfl, hcc⟩ := HC.out.1 (by omega)
      obtain ⟨b2, o2, rfl, hcc2⟩ := HC.out.2 (by omega)
      have hcell := (Below.cell hw (World.block_lt_of_cell? _ _ (hcc k hjx))).trans (hcc k hjx)
      have hcell2 := (Below.cell hw (World.block_lt_of_cell? _ _ (hcc2 k hjy))).trans (hcc2 k hjy)
      have hx1 := getD_lt HD.out.1 k
      have hy1 := getD_lt HD.out.2 k
      have hstep := minus_step ho.out.1 hx1 hy1 ht ho.out.2.2
      obtain ⟨x, hx⟩ : ∃ d, d = xs.getD k 0 := ⟨_, rfl⟩
      obtain ⟨y, hy⟩ : ∃ d, d = ys.getD k 0 := ⟨_, rfl⟩
      rw [← hx, ← hy] at hstep
      rw [← hx] at hcell hx1
      rw [← hy] at hcell2 hy1
      obtain ⟨s, hs⟩ : ∃ s, s = (4294967296 + x - y - t) % 4294967296 := ⟨_, rfl⟩
      obtain ⟨t2, ht2⟩ : ∃ s, s = 1 - (4294967296 + x - y - t) / 4294967296 := ⟨_, rfl⟩
      have HA := Lib.hid fun W => Bits.sub32 x y t s t2 W hx1 hy1 ht hs ht2
      rw [← hs, ← ht2] at hstep
      have hs1 : s < 4294967296 := by omega
      have ht21 : t2 ≤ 1 := by omega
      have hlen : (splice (List.replicate n 0) 0 outs).length = n := by rw [splice_len (by simp; have := ho.out.1; omega)]; simp
      have g1 := hb.out.cell (i := k) (by omega)
      have g2 := hb.out.frozen k
      have hset := hb.out.set (i := k) (d := s) (by omega) hs1
      have e1 := splice_set (ds := List.replicate n 0) (o := 0) (d := s) (outs := outs) (by simp; have := ho.out.1; omega)
      rw [ho.out.1, Nat.zero_add] at e1
      rw [e1] at hset
      obtain ⟨z, hz⟩ : ∃ d, d = (splice (List.replicate n 0) 0 outs).getD k 0 := ⟨_, rfl⟩
      rw [← hz] at g1
      have HS := Lib.hid (And.intro hstep hset)
      have hb1 : b ≠ w.heap.size := by have := World.block_lt_of_cell? _ _ (hcc k hjx); simp at this; omega
      have hb2 : b2 ≠ w.heap.size := by have := World.block_lt_of_cell? _ _ (hcc2 k hjy); simp at this; omega
      clear hcc hcc2 hx hy hs ht2 hstep hlen hset e1 hz hjx hjy
      have i1 : (0 : Int) ≤ (k : Int) := by omega
      have i2 : (k : Int) < (n : Int) := by omega
      have i3 : (k : Int) < (m : Int) := by omega
      go_wp2
      go_region_held3 (fun W => W.cell? ⟨b, o + k, none⟩ = some (.int .u32 (x : Int)) ∧ W.cell? ⟨b2, o2 + k, none⟩ = some (.int .u32 (y : Int)))
        (first | exact ⟨hcell, hcell2⟩ | exact ⟨cell_far hcell hb1 _, cell_far hcell2 hb2 _⟩)
        (first | (go_at_call 44; (with_reducible refine (HA.out _).mono ?_); rintro e w1 ⟨rfl, rfl⟩))
      all_goals
        go_wp2
        go_roundw
        case rel => exact ⟨k + 1, t2, outs ++ [s], by omega, by go_num, rfl, ht21, ⟨by rw [List.length_append, ho.out.1]; rfl, isDig_snoc ho.out.2.1 hs1, HS.out.1⟩, HS.out.2, Since.drew (Since.set hw (Nat.le_refl _) _)⟩
        case measure => simp [intOf]; omega
    · obtain rfl : k = m := by omega
      have HB := Lib.hid (And.intro hb.out hw)
      have HO := Lib.hid ho.out
      clear hb hw ho
      go_wp2
      go_loopw [7, 9] (fun c i wr => ∃ (k2 t : Nat) (outs : List Nat), k ≤ k2 ∧ k2 ≤ n ∧ i = .int .i64 k2 ∧ c = .int .u32 t ∧ t ≤ 1 ∧ Hid (outs.length = k2 ∧ IsDig outs ∧ num outs + num (ys.take k2) = num (xs.take k2) + 4294967296 ^ k2 * t) ∧ Hid (Blk wr w.heap.size (splice (List.replicate n 0) 0 outs)) ∧ Since w wr) (fun _ i _ => n - (intOf i).toNat)
      case atStart => exact ⟨k, t, outs, Nat.le_refl _, hm1, rfl, rfl, ht, HO.out, HB.out.1, HB.out.2⟩
      case round =>
        clear HB HO ht
        obtain ⟨k2, t, outs, hk1, hk2, rfl, rfl, ht, ho, hb, hw⟩ := hrel
        by_cases hlt2 : k2 < n
        · have hjx : k2 < xs.length := by have := HN.out; omega
          obtain ⟨b, o, rfl, hcc⟩ := HC.out.1 (by omega)
          have hcell := (Below.cell hw (World.block_lt_of_cell? _ _ (hcc k2 hjx))).trans (hcc k2 hjx)
          have hx1 := getD_lt HD.out.1 k2
          have hy0 : ys.getD k2 0 = 0 := getD_ge (by have := HN.out; omega)
          have hstep := minus_step ho.out.1 hx1 (by rw [hy0]; omega) ht ho.out.2.2
          rw [hy0, Nat.sub_zero] at hstep
          obtain ⟨x, hx⟩ : ∃ d, d = xs.getD k2 0 := ⟨_, rfl⟩
          rw [← hx] at hcell hx1 hstep
          obtain ⟨s, hs⟩ : ∃ s, s = (4294967296 + x - t) % 4294967296 := ⟨_, rfl⟩
          obtain ⟨t2, ht2⟩ : ∃ s, s = 1 - (4294967296 + x - t) / 4294967296 := ⟨_, rfl⟩
          have HA := Lib.hid fun W => Bits.sub32m x t s t2 W hx1 ht hs ht2
          rw [← hs, ← ht2] at hstep
          have hs1 : s < 4294967296 := by omega
          have ht21 : t2 ≤ 1 := by omega
          have hlen : (splice (List.replicate n 0) 0 outs).length = n := by rw [splice_len (by simp; have := ho.out.1; omega)]; simp
          have g1 := hb.out.cell (i := k2) (by omega)
          have g2 := hb.out.frozen k2
          have hset := hb.out.set (i := k2) (d := s) (by omega) hs1
          have e1 := splice_set (ds := List.replicate n 0) (o := 0) (d := s) (outs := outs) (by simp; have := ho.out.1; omega)
          rw [ho.out.1, Nat.zero_add] at e1
          rw [e1] at hset
          obtain ⟨z, hz⟩ : ∃ d, d = (splice (List.replicate n 0) 0 outs).getD k2 0 := ⟨_, rfl⟩
          rw [← hz] at g1
          have HS := Lib.hid (And.intro hstep hset)
          clear hcc hx hy0 hs ht2 hstep hlen hset e1 hz hjx
          go_wp2_with (go_at_call 44; (with_reducible refine (HA.out _).mono ?_); rintro e w1 ⟨rfl, rfl⟩)
          go_roundw
          case rel => exact ⟨k2 + 1, t2, outs ++ [s], by omega, by omega, by go_num, rfl, ht21, ⟨by rw [List.length_append, ho.out.1]; rfl, isDig_snoc ho.out.2.1 hs1, HS.out.1⟩, HS.out.2, hw.set (Nat.le_refl _) _⟩
          case measure => simp [intOf]; omega
        · obtain rfl : k2 = n := by omega
          have hv := ho.out.2.2
          have hlO := ho.out.1
          have hdO := ho.out.2.1
          have hN := HN.out
          have hnum : num outs = num xs - num ys := by
            refine minus_end (b := t) HD.out.1 hdO (by omega) (by omega) hN.2.2 ?_
            rw [← hN.1]; exact hv
          have hb2 := hb.out
          rw [splice_zero_end (by omega)] at hb2
          have HS := Lib.hid (And.intro hnum (And.intro hb2 (And.intro hlO (show outs.length ≤ 100000 by omega))))
          have HCUT := Lib.hid fun W (h : Blk W w.heap.size outs) => cut_any w.heap.size outs W h HS.out.2.2.2
          simp only [hlO] at HCUT
          clear hv hlO hdO hN hnum hb2
          go_wp2_with (go_at_call 45; (with_reducible refine (HCUT.out _ HS.out.2.1).mono ?_); rintro e w1 ⟨g2, rfl, hr2, hs2⟩)
          go_ret2
          exact ⟨_, rfl, by rw [← HS.out.1]; exact hr2, hw.trans hs2⟩
theorem sub_any (va vb : Value) (xs ys : List Nat) (w : World) (hx : Row w va xs) (hy : Row w vb ys) (lx : xs.length ≤ 10000) (ly : ys.length ≤ 10000) :
    Calls Tryd.prog 24 #[va, vb] w (RetRowErr (subD xs ys).1 (subD xs ys).2 w) := by
  by_cases r1 : rightB xs = true
  · by_cases r2 : rightB ys = true
    · by_cases hle : num ys ≤ num xs
      · rw [subD, if_pos ⟨⟨r1, r2⟩, hle⟩]
        exact sub_good va vb xs ys w hx hy r1 r2 hle
      · rw [subD, if_neg (fun h => hle h.2)]
        have hcmp : cmpL xs ys < 0 := (cmpL_lt hx.dig hy.dig (right_norm r1).2 (right_norm r2).2).2 (by omega)
        have H := Lib.hid (And.intro hx hy)
        have HR := Lib.hid (And.intro r1 r2)
        obtain ⟨C, hC⟩ : ∃ s, s = cmpL xs ys := ⟨_, rfl⟩
        rw [← hC] at hcmp
        have HC := Lib.hid hC
        clear hx hy hle r1 r2 hC
        go_enter Tryd.func24, Tryd.ntmps24
        go_wp2_with (first
          | (go_at_call 17; (with_reducible refine (right_yes va xs _ H.out.1 lx).mono ?_); rw [HR.out.1]; rintro e w1 ⟨rfl, rfl⟩)
          | (go_at_call 17; (with_reducible refine (right_yes vb ys _ H.out.2 ly).mono ?_); rw [HR.out.2]; rintro e w1 ⟨rfl, rfl⟩)
          | (go_at_call 35; (with_reducible refine (compare_any va vb xs ys _ H.out.1 H.out.2 (by omega) (by omega)).mono ?_); rw [← HC.out]; rintro e w1 ⟨rfl, dn, rfl⟩))
        go_ret2
        exact ⟨_, rfl, Row.nil _, (Since.refl _).drewN _⟩
    · have r2' : rightB ys = false := by simpa using r2
      rw [subD, if_neg (fun h => r2 h.1.2)]
      have H := Lib.hid (And.intro hx hy)
      clear r2 hx hy
      go_enter Tryd.func24, Tryd.ntmps24
      go_wp2_with (first
        | (go_at_call 17; (with_reducible refine (right_yes va xs _ H.out.1 lx).mono ?_); rintro e w1 ⟨rfl, rfl⟩)
        | (go_at_call 17; (with_reducible refine (right_yes vb ys _ H.out.2 ly).mono ?_); rintro e w1 ⟨rfl, rfl⟩))
      go_ret2
      exact ⟨_, rfl, Row.nil _, Since.refl _⟩
  · have r1' : rightB xs = false := by simpa using r1
    rw [subD, if_neg (fun h => r1 h.1.1)]
    have H := Lib.hid hx
    clear r1 hx hy
    go_enter Tryd.func24, Tryd.ntmps24
    go_wp2_with (first
      | (go_at_call 17; (with_reducible refine (right_yes va xs _ H.out lx).mono ?_); rintro e w1 ⟨rfl, rfl⟩))
    go_ret2
    exact ⟨_, rfl, Row.nil _, Since.refl _⟩
end Go.Proofs.YtkceldnljppflaaDoor.Nat02
