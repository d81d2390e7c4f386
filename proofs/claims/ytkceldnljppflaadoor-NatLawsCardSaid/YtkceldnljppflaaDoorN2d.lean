/- What sumLength and Add of package nat give back. -/
import Derived.Test.YtkceldnljppflaaDoorN2c
import Derived.Deep.RegionHeld3
namespace Go.Proofs.YtkceldnljppflaaDoor.Nat02
open Go.RowKit
set_option linter.unusedVariables false
open Go.Proofs.YtkceldnljppflaaDoor.Dig

theorem len_same {xs : List Nat} {S : Nat} (hd : IsDig xs) (nx : Norm xs) (h0 : xs.length = 0 → S = 0) (h1 : num xs ≤ S) (h2 : S < 4294967296 ^ xs.length) : (digs S).length = xs.length := by
  by_cases h : xs.length = 0
  · rw [h0 h, h]; rfl
  · have := norm_ge nx h
    have e := digs_len_of (n := S) (k := xs.length - 1) (by omega) (by rw [show xs.length - 1 + 1 = xs.length by omega]; exact h2)
    omega
theorem len_more {xs ys : List Nat} (hx : IsDig xs) (hy : IsDig ys) (hl : ys.length ≤ xs.length) (h : 4294967296 ^ xs.length ≤ num xs + num ys) : (digs (num xs + num ys)).length = xs.length + 1 := by
  refine digs_len_of h ?_
  have h1 := num_lt hx
  have h2 := num_lt hy
  have h3 := Nat.pow_le_pow_right (n := 4294967296) (by omega) hl
  rw [Nat.pow_succ]; omega
theorem sum_zero {xs ys : List Nat} (hl : ys.length ≤ xs.length) (h : xs.length = 0) : num xs + num ys = 0 := by
  have e1 : xs = [] := List.eq_nil_of_length_eq_zero h
  have e2 : ys = [] := List.eq_nil_of_length_eq_zero (by omega)
  rw [e1, e2]; rfl
theorem sumlen_or {xs ys : List Nat} (hx : IsDig xs) (hy : IsDig ys) (nx : Norm xs) (hl : ys.length ≤ xs.length) :
    ((digs (num xs + num ys)).length = xs.length ∧ num xs + num ys < 4294967296 ^ xs.length) ∨ ((digs (num xs + num ys)).length = xs.length + 1 ∧ 4294967296 ^ xs.length ≤ num xs + num ys) := by
  rcases Nat.lt_or_ge (num xs + num ys) (4294967296 ^ xs.length) with h | h
  · exact .inl ⟨len_same hx nx (sum_zero hl) (by omega) h, h⟩
  · exact .inr ⟨len_more hx hy hl h, h⟩

set_option maxRecDepth 100000 in
set_option maxHeartbeats 1000000 in
theorem sumLength_any (va vb : Value) (xs ys : List Nat) (w : World) (hx : Row w va xs) (hy : Row w vb ys) (nx : xs.length ≤ 256 ∧ Norm xs) (ny : ys.length ≤ 256 ∧ Norm ys) (hle : ys.length ≤ xs.length) :
    Calls Tryd.prog 40 #[va, vb] w fun e w' => e = .returned (.int .i64 (((digs (num xs + num ys)).length : Nat) : Int)) ∧ w = w' := by
  obtain ⟨dx, A, cA, rfl, hcx, -⟩ := hx
  obtain ⟨dy, B, cB, rfl, hcy, -⟩ := hy
  have HC := Lib.hid (And.intro hcx hcy)
  have HD := Lib.hid (And.intro dx dy)
  have HN := Lib.hid (And.intro nx ny)
  obtain ⟨S, hS⟩ : ∃ s, s = (digs (num xs + num ys)).length := ⟨_, rfl⟩
  rw [← hS]
  obtain ⟨n, hn⟩ : ∃ n, n = xs.length := ⟨_, rfl⟩
  obtain ⟨m, hm⟩ : ∃ n, n = ys.length := ⟨_, rfl⟩
  have hn1 : n ≤ 256 := by omega
  have hm1 : m ≤ n := by omega
  rw [← hn, ← hm]
  have HE := Lib.hid (And.intro hn (And.intro hm hS))
  clear hcx hcy dx dy hn hm hS nx ny hle
  go_enter Tryd.func40, Tryd.ntmps40
  go_wp2
  go_loop [5] (fun i => ∃ k : Nat, k ≤ n ∧ i = .int .i64 ((k : Int) - 1) ∧ Hid (num (xs.drop k) + num (ys.drop k) + 1 = 4294967296 ^ (n - k))) (fun i => (intOf i + 1).toNat)
  case atStart => exact ⟨n, Nat.le_refl _, by go_num, by
    show _ = _
    rw [List.drop_of_length_le (by have := HE.out.1; omega), List.drop_of_length_le (by have := HE.out.2.1; omega), Nat.sub_self]; rfl⟩
  case round =>
    obtain ⟨k, hk, rfl, hv⟩ := hrel
    rcases k with _ | j
    · have e : S = n := by
        rw [HE.out.2.2, HE.out.1]
        refine len_same HD.out.1 HN.out.1.2 (sum_zero (by have := HE.out; omega)) (by omega) ?_
        rw [← HE.out.1]
        exact sumlen_end hv.out
      subst e
      go_wp2
      go_ret
      exact ⟨rfl, rfl⟩
    · have e : ((j + 1 : Nat) : Int) - 1 = (j : Int) := by omega
      rw [e]
      clear e
      have hj : j < n := by omega
      obtain ⟨b, o, rfl, hcc⟩ := HC.out.1 (by have := HE.out; omega)
      have hcell := hcc j (by have := HE.out; omega)
      have hx1 := getD_lt HD.out.1 j
      have hy1 := getD_lt HD.out.2 j
      have hstep := fun h => sumlen_step hj hv.out h
      have hlow : xs.getD j 0 + ys.getD j 0 < 4294967295 → S = n := fun h => by
        rw [HE.out.2.2, HE.out.1]
        refine len_same HD.out.1 HN.out.1.2 (sum_zero (by have := HE.out; omega)) (by omega) ?_
        rw [← HE.out.1]
        exact sumlen_low HD.out.1 HD.out.2 hj hv.out h
      have hhigh : 4294967296 ≤ xs.getD j 0 + ys.getD j 0 → S = n + 1 := fun h => by
        rw [HE.out.2.2, HE.out.1]
        refine len_more HD.out.1 HD.out.2 (by have := HE.out; omega) ?_
        rw [← HE.out.1]
        exact sumlen_high HD.out.1 HD.out.2 hj hv.out h
      have hy0 : m ≤ j → ys.getD j 0 = 0 := fun h => getD_ge (by have := HE.out; omega)
      have hcy : j < m → ∃ b o, B = some ⟨b, o, none⟩ ∧ w.cell? ⟨b, o + j, none⟩ = some (.int .u32 ((ys.getD j 0 : Nat) : Int)) := fun h => by
        obtain ⟨b, o, e, hcc⟩ := HC.out.2 (by have := HE.out; omega)
        exact ⟨b, o, e, hcc j (by have := HE.out; omega)⟩
      obtain ⟨x, hx⟩ : ∃ d, d = xs.getD j 0 := ⟨_, rfl⟩
      obtain ⟨y, hy⟩ : ∃ d, d = ys.getD j 0 := ⟨_, rfl⟩
      rw [← hx] at hcell hx1 hstep hlow hhigh
      rw [← hy] at hcy hy1 hstep hlow hhigh hy0
      obtain ⟨s, hs⟩ : ∃ s, s = (x + y) % 4294967296 := ⟨_, rfl⟩
      obtain ⟨t, ht⟩ : ∃ s, s = (x + y) / 4294967296 := ⟨_, rfl⟩
      have HA := Lib.hid fun W => Bits.add32z x y s t W hx1 hy1 hs ht
      have HST := Lib.hid hstep
      clear hcc hx hy hstep
      by_cases hjm : j < m
      · obtain ⟨b2, o2, rfl, hcell2⟩ := hcy hjm
        clear hcy hy0
        rcases (show x + y = 4294967295 ∨ x + y < 4294967295 ∨ 4294967296 ≤ x + y by omega) with h | h | h
        · have es : ((s : Int) != 4294967295) = false := by simp; omega
          have HH := Lib.hid (HST.out h)
          clear hs ht hlow hhigh h
          go_wp2_with (go_at_call 41; (with_reducible refine (HA.out _).mono ?_); rintro e w1 ⟨rfl, rfl⟩)
          go_round
          case rel => exact ⟨j, by omega, rfl, HH.out⟩
          case measure => simp [intOf]
        · have es : ((s : Int) != 4294967295) = true := by simp; omega
          have e : S = n := hlow h
          have et : t = 0 := by omega
          subst e et
          clear hs ht hlow hhigh h
          go_wp2_with (go_at_call 41; (with_reducible refine (HA.out _).mono ?_); rintro e w1 ⟨rfl, rfl⟩)
          go_ret
          exact ⟨rfl, rfl⟩
        · have es : ((s : Int) != 4294967295) = true := by simp; omega
          have e : S = n + 1 := hhigh h
          have et : t = 1 := by omega
          subst e et
          clear hs ht hlow hhigh h
          go_wp2_with (go_at_call 41; (with_reducible refine (HA.out _).mono ?_); rintro e w1 ⟨rfl, rfl⟩)
          go_ret
          exact ⟨rfl, rfl⟩
      · have hjm2 : m ≤ j := by omega
        have ey : y = 0 := hy0 hjm2
        subst ey
        have HA2 := Lib.hid fun W => Bits.add32zz x s t W hx1 hs ht
        clear hcy hy0 hjm HA
        rcases (show x + 0 = 4294967295 ∨ x + 0 < 4294967295 by omega) with h | h
        · have es : ((s : Int) != 4294967295) = false := by simp; omega
          have HH := Lib.hid (HST.out h)
          clear hs ht hlow hhigh h
          go_wp2_with (go_at_call 41; (with_reducible refine (HA2.out _).mono ?_); rintro e w1 ⟨rfl, rfl⟩)
          go_round
          case rel => exact ⟨j, by omega, rfl, HH.out⟩
          case measure => simp [intOf]
        · have es : ((s : Int) != 4294967295) = true := by simp; omega
          have e : S = n := hlow h
          have et : t = 0 := by omega
          subst e et
          clear hs ht hlow hhigh h
          go_wp2_with (go_at_call 41; (with_reducible refine (HA2.out _).mono ?_); rintro e w1 ⟨rfl, rfl⟩)
          go_ret
          exact ⟨rfl, rfl⟩

set_option maxRecDepth 100000 in
set_option maxHeartbeats 4000000 in
theorem add_long (vx vy : Value) (xs ys : List Nat) (w : World) (hx : Row w vx xs) (hy : Row w vy ys) (rx : rightB xs = true) (ry : rightB ys = true) (hle : ys.length ≤ xs.length) :
    Calls Tryd.prog 22 #[vx, vy] w (RetRowErr (fitD (num xs + num ys)).1 (fitD (num xs + num ys)).2 w) := by
  have HX := Lib.hid hx
  have HY := Lib.hid hy
  have nx := right_norm rx
  have ny := right_norm ry
  obtain ⟨dx, A, cA, rfl, hcx, -⟩ := hx
  obtain ⟨dy, B, cB, rfl, hcy, -⟩ := hy
  have HC := Lib.hid (And.intro hcx hcy)
  have HD := Lib.hid (And.intro dx dy)
  have HR := Lib.hid (And.intro rx ry)
  have hslen := sumlen_or dx dy nx.2 (by omega : ys.length ≤ xs.length)
  have HNM := Lib.hid (And.intro nx ny)
  obtain ⟨S, hS⟩ : ∃ s, s = (digs (num xs + num ys)).length := ⟨_, rfl⟩
  rw [← hS] at hslen
  obtain ⟨n, hn⟩ : ∃ n, n = xs.length := ⟨_, rfl⟩
  obtain ⟨m, hm⟩ : ∃ n, n = ys.length := ⟨_, rfl⟩
  have hn1 : n ≤ 256 := by omega
  have hm1 : m ≤ n := by omega
  rw [← hn] at hle HX hslen ⊢
  rw [← hm] at hle HY ⊢
  have hSn : n ≤ S := by omega
  have hSn1 : S ≤ n + 1 := by omega
  have HN := Lib.hid (And.intro hn (And.intro hm (And.intro hS hslen)))
  clear hcx hcy dx dy nx ny hn hm hS rx ry hslen
  by_cases hbig : 256 < S
  · have e : fitD (num xs + num ys) = ([], 3) := by rw [fitD, if_neg (by have := HN.out.2.2.1; omega)]
    rw [e]
    clear e
    go_enter Tryd.func22, Tryd.ntmps22
    go_wp2_with (first
      | (go_at_call 17; (with_reducible refine (right_yes (.slice A n cA) xs _ HX.out (by have := HN.out; omega)).mono ?_); rw [HR.out.1]; rintro e w1 ⟨rfl, rfl⟩)
      | (go_at_call 17; (with_reducible refine (right_yes (.slice B m cB) ys _ HY.out (by have := HN.out; omega)).mono ?_); rw [HR.out.2]; rintro e w1 ⟨rfl, rfl⟩)
      | (go_at_call 40; (with_reducible refine (sumLength_any (.slice A n cA) (.slice B m cB) xs ys _ HX.out HY.out HNM.out.1 HNM.out.2 (by have := HN.out; omega)).mono ?_); rw [← HN.out.2.2.1]; rintro e w1 ⟨rfl, rfl⟩))
    go_ret2
    exact ⟨_, rfl, Row.nil _, Since.refl _⟩
  · have e : fitD (num xs + num ys) = (digs (num xs + num ys), 0) := by rw [fitD, if_pos (by have := HN.out.2.2.1; omega)]
    rw [e]
    clear e
    have hS256 : S ≤ 256 := by omega
    have hmk := make_digits S (by omega)
    clear hbig
    go_enter Tryd.func22, Tryd.ntmps22
    go_wp2_with (first
      | (go_at_call 17; (with_reducible refine (right_yes (.slice A n cA) xs _ HX.out (by have := HN.out; omega)).mono ?_); rw [HR.out.1]; rintro e w1 ⟨rfl, rfl⟩)
      | (go_at_call 17; (with_reducible refine (right_yes (.slice B m cB) ys _ HY.out (by have := HN.out; omega)).mono ?_); rw [HR.out.2]; rintro e w1 ⟨rfl, rfl⟩)
      | (go_at_call 40; (with_reducible refine (sumLength_any (.slice A n cA) (.slice B m cB) xs ys _ HX.out HY.out HNM.out.1 HNM.out.2 (by have := HN.out; omega)).mono ?_); rw [← HN.out.2.2.1]; rintro e w1 ⟨rfl, rfl⟩))
    go_loopw [8, 35] (fun c i wr => ∃ (k t : Nat) (outs : List Nat), k ≤ m ∧ i = .int .i64 k ∧ c = .int .u32 t ∧ t ≤ 1 ∧ Hid (outs.length = k ∧ IsDig outs ∧ num outs + 4294967296 ^ k * t = num (xs.take k) + num (ys.take k)) ∧ Hid (Blk wr w.heap.size (splice (List.replicate S 0) 0 outs)) ∧ Since w wr) (fun _ i _ => m - (intOf i).toNat)
    case atStart => exact ⟨0, 0, [], by omega, rfl, rfl, by omega, ⟨rfl, isDig_nil, by simp [num]⟩, by rw [splice_nil]; exact Blk.made w S, since_made w _ _⟩
    case round =>
      obtain ⟨k, t, outs, hk, rfl, rfl, ht, ho, hb, hw⟩ := hrel
      by_cases hlt : k < m
      · have hjx : k < xs.length := by have := HN.out; omega
        have hjy : k < ys.length := by have := HN.out; omega
        obtain ⟨b, o, rfl, hcc⟩ := HC.out.1 (by omega)
        obtain ⟨b2, o2, rfl, hcc2⟩ := HC.out.2 (by omega)
        have hcell := (Below.cell hw (World.block_lt_of_cell? _ _ (hcc k hjx))).trans (hcc k hjx)
        have hcell2 := (Below.cell hw (World.block_lt_of_cell? _ _ (hcc2 k hjy))).trans (hcc2 k hjy)
        have hx1 := getD_lt HD.out.1 k
        have hy1 := getD_lt HD.out.2 k
        have hstep := plus_step ho.out.1 ho.out.2.2
        obtain ⟨x, hx⟩ : ∃ d, d = xs.getD k 0 := ⟨_, rfl⟩
        obtain ⟨y, hy⟩ : ∃ d, d = ys.getD k 0 := ⟨_, rfl⟩
        rw [← hx] at hcell hx1 hstep
        rw [← hy] at hcell2 hy1 hstep
        obtain ⟨s, hs⟩ : ∃ s, s = (x + y + t) % 4294967296 := ⟨_, rfl⟩
        obtain ⟨t2, ht2⟩ : ∃ s, s = (x + y + t) / 4294967296 := ⟨_, rfl⟩
        have HA := Lib.hid fun W => Bits.add32 x y t s t2 W hx1 hy1 (by omega) hs ht2
        rw [← hs, ← ht2] at hstep
        have hs1 : s < 4294967296 := by omega
        have ht21 : t2 ≤ 1 := by omega
        have hlen : (splice (List.replicate S 0) 0 outs).length = S := by rw [splice_len (by simp; have := ho.out.1; omega)]; simp
        have g1 := hb.out.cell (i := k) (by omega)
        have g2 := hb.out.frozen k
        have hset := hb.out.set (i := k) (d := s) (by omega) hs1
        have e1 := splice_set (ds := List.replicate S 0) (o := 0) (d := s) (outs := outs) (by simp; have := ho.out.1; omega)
        rw [ho.out.1, Nat.zero_add] at e1
        rw [e1] at hset
        obtain ⟨z, hz⟩ : ∃ d, d = (splice (List.replicate S 0) 0 outs).getD k 0 := ⟨_, rfl⟩
        rw [← hz] at g1
        have HS := Lib.hid (And.intro hstep hset)
        have hb1 : b ≠ w.heap.size := by have := World.block_lt_of_cell? _ _ (hcc k hjx); simp at this; omega
        have hb2 : b2 ≠ w.heap.size := by have := World.block_lt_of_cell? _ _ (hcc2 k hjy); simp at this; omega
        clear hcc hcc2 hx hy hs ht2 hstep hlen hset e1 hz hjx hjy
        have i1 : (0 : Int) ≤ (k : Int) := by omega
        have i2 : (k : Int) < (n : Int) := by omega
        have i3 : (k : Int) < (m : Int) := by omega
        have i4 : (k : Int) < (S : Int) := by omega
        go_wp2
        go_region_held3 (fun W => W.cell? ⟨b, o + k, none⟩ = some (.int .u32 (x : Int)) ∧ W.cell? ⟨b2, o2 + k, none⟩ = some (.int .u32 (y : Int)))
          (first | exact ⟨hcell, hcell2⟩ | exact ⟨cell_far hcell hb1 _, cell_far hcell2 hb2 _⟩)
          (first | (go_at_call 41; (with_reducible refine (HA.out _).mono ?_); rintro e w1 ⟨rfl, rfl⟩))
        all_goals
          go_wp2
          go_roundw
          case rel => exact ⟨k + 1, t2, outs ++ [s], by omega, by go_num, rfl, ht21, ⟨by rw [List.length_append, ho.out.1]; rfl, isDig_snoc ho.out.2.1 hs1, HS.out.1⟩, HS.out.2, Since.drew (Since.set hw (Nat.le_refl _) _)⟩
          case measure => simp [intOf]; omega
      · obtain rfl : k = m := by omega
        have HB := Lib.hid (And.intro hb.out hw)
        have HO := Lib.hid ho.out
        clear hb hw ho
        go_wp2
        go_loopw [8, 10] (fun c i wr => ∃ (k2 t : Nat) (outs : List Nat), k ≤ k2 ∧ k2 ≤ n ∧ i = .int .i64 k2 ∧ c = .int .u32 t ∧ t ≤ 1 ∧ Hid (outs.length = k2 ∧ IsDig outs ∧ num outs + 4294967296 ^ k2 * t = num (xs.take k2) + num (ys.take k2)) ∧ Hid (Blk wr w.heap.size (splice (List.replicate S 0) 0 outs)) ∧ Since w wr) (fun _ i _ => n - (intOf i).toNat)
        case atStart => exact ⟨k, t, outs, Nat.le_refl _, hm1, rfl, rfl, ht, HO.out, HB.out.1, HB.out.2⟩
        case round =>
          clear HB HO ht
          obtain ⟨k2, t, outs, hk1, hk2, rfl, rfl, ht, ho, hb, hw⟩ := hrel
          by_cases hlt2 : k2 < n
          · have hjx : k2 < xs.length := by have := HN.out; omega
            obtain ⟨b, o, rfl, hcc⟩ := HC.out.1 (by omega)
            have hcell := (Below.cell hw (World.block_lt_of_cell? _ _ (hcc k2 hjx))).trans (hcc k2 hjx)
            have hx1 := getD_lt HD.out.1 k2
            have hstep := plus_step ho.out.1 ho.out.2.2
            have hy0 : ys.getD k2 0 = 0 := getD_ge (by have := HN.out; omega)
            rw [hy0, Nat.add_zero] at hstep
            obtain ⟨x, hx⟩ : ∃ d, d = xs.getD k2 0 := ⟨_, rfl⟩
            rw [← hx] at hcell hx1 hstep
            obtain ⟨s, hs⟩ : ∃ s, s = (x + t) % 4294967296 := ⟨_, rfl⟩
            obtain ⟨t2, ht2⟩ : ∃ s, s = (x + t) / 4294967296 := ⟨_, rfl⟩
            have HA := Lib.hid fun W => Bits.add32m x t s t2 W hx1 (by omega) hs ht2
            rw [← hs, ← ht2] at hstep
            have hs1 : s < 4294967296 := by omega
            have ht21 : t2 ≤ 1 := by omega
            have hlen : (splice (List.replicate S 0) 0 outs).length = S := by rw [splice_len (by simp; have := ho.out.1; omega)]; simp
            have g1 := hb.out.cell (i := k2) (by omega)
            have g2 := hb.out.frozen k2
            have hset := hb.out.set (i := k2) (d := s) (by omega) hs1
            have e1 := splice_set (ds := List.replicate S 0) (o := 0) (d := s) (outs := outs) (by simp; have := ho.out.1; omega)
            rw [ho.out.1, Nat.zero_add] at e1
            rw [e1] at hset
            obtain ⟨z, hz⟩ : ∃ d, d = (splice (List.replicate S 0) 0 outs).getD k2 0 := ⟨_, rfl⟩
            rw [← hz] at g1
            have HS := Lib.hid (And.intro hstep hset)
            clear hcc hx hy0 hs ht2 hstep hlen hset e1 hz hjx
            go_wp2_with (go_at_call 41; (with_reducible refine (HA.out _).mono ?_); rintro e w1 ⟨rfl, rfl⟩)
            go_roundw
            case rel => exact ⟨k2 + 1, t2, outs ++ [s], by omega, by omega, by go_num, rfl, ht21, ⟨by rw [List.length_append, ho.out.1]; rfl, isDig_snoc ho.out.2.1 hs1, HS.out.1⟩, HS.out.2, hw.set (Nat.le_refl _) _⟩
            case measure => simp [intOf]; omega
          · obtain rfl : k2 = n := by omega
            have hv := ho.out.2.2
            rw [List.take_of_length_le (by have := HN.out; omega), List.take_of_length_le (by have := HN.out; omega)] at hv
            have hlO := ho.out.1
            have hdO := ho.out.2.1
            have hpow := num_lt hdO
            rw [hlO] at hpow
            by_cases hS2 : k2 < S
            · have eS : S = k2 + 1 := by omega
              have hge : 4294967296 ^ k2 ≤ num xs + num ys := by
                have h1 := HN.out.1
                have h2 := HN.out.2.2.2
                rcases h2 with h2 | h2
                · omega
                · exact h2.2
              have et : t = 1 := by
                rcases (show t = 0 ∨ t = 1 by omega) with rfl | rfl
                · exfalso; rw [Nat.mul_zero] at hv; omega
                · rfl
              have hlen : (splice (List.replicate S 0) 0 outs).length = S := by rw [splice_len (by simp; omega)]; simp
              have g1 := hb.out.cell (i := k2) (by omega)
              have g2 := hb.out.frozen k2
              have hset := hb.out.set (i := k2) (d := t) (by omega) (by omega)
              have e1 := splice_set (ds := List.replicate S 0) (o := 0) (d := t) (outs := outs) (by simp; omega)
              rw [hlO, Nat.zero_add] at e1
              rw [e1, splice_zero_end (by simp; omega)] at hset
              have ed : digs (num xs + num ys) = outs ++ [t] := by
                have := num_snoc outs t
                rw [hlO, hv] at this
                rw [← this]
                refine digs_of_ge (isDig_snoc hdO (by omega)) ?_
                rw [this]
                simpa [hlO] using hge
              obtain ⟨z, hz⟩ : ∃ d, d = (splice (List.replicate S 0) 0 outs).getD k2 0 := ⟨_, rfl⟩
              rw [← hz] at g1
              have HS := Lib.hid (And.intro ed (And.intro hset (show (outs ++ [t]).length = S by simp; omega)))
              clear hv hlO hdO hpow hge hlen hset e1 ed hz et
              subst eS
              go_wp2
              go_ret2
              exact ⟨_, rfl, by rw [HS.out.1]; exact HS.out.2.1.row_all HS.out.2.2 (Nat.le_refl _), hw.set (Nat.le_refl _) _⟩
            · have eS : S = k2 := by omega
              have hlo : num xs + num ys < 4294967296 ^ k2 := by
                have h1 := HN.out.1
                have h2 := HN.out.2.2.2
                rcases h2 with h2 | h2
                · exact h2.2
                · omega
              have et : t = 0 := by
                rcases (show t = 0 ∨ t = 1 by omega) with rfl | rfl
                · rfl
                · exfalso; rw [Nat.mul_one] at hv; omega
              subst et
              rw [Nat.mul_zero, Nat.add_zero] at hv
              have ed : digs (num xs + num ys) = outs := by
                have hS := HN.out.2.2.1
                rw [← hv] at hS ⊢
                have e3 := take_sig hdO
                rw [show sig outs = outs.length by show (digs (num outs)).length = _; omega, List.take_length] at e3
                exact e3
              have hb2 := hb.out
              rw [splice_zero_end (by omega)] at hb2
              have HS := Lib.hid (And.intro ed (And.intro hb2 (show outs.length = S by omega)))
              clear hv hlO hdO hpow hlo ed hb2
              subst eS
              go_wp2
              go_ret2
              exact ⟨_, rfl, by rw [HS.out.1]; exact HS.out.2.1.row_all HS.out.2.2 (Nat.le_refl _), hw⟩

set_option maxRecDepth 100000 in
set_option maxHeartbeats 4000000 in
theorem add_short (vx vy : Value) (xs ys : List Nat) (w : World) (hx : Row w vx xs) (hy : Row w vy ys) (rx : rightB xs = true) (ry : rightB ys = true) (hle : ys.length < xs.length) :
    Calls Tryd.prog 22 #[vy, vx] w (RetRowErr (fitD (num xs + num ys)).1 (fitD (num xs + num ys)).2 w) := by
  have HX := Lib.hid hx
  have HY := Lib.hid hy
  have nx := right_norm rx
  have ny := right_norm ry
  obtain ⟨dx, A, cA, rfl, hcx, -⟩ := hx
  obtain ⟨dy, B, cB, rfl, hcy, -⟩ := hy
  have HC := Lib.hid (And.intro hcx hcy)
  have HD := Lib.hid (And.intro dx dy)
  have HR := Lib.hid (And.intro rx ry)
  have hslen := sumlen_or dx dy nx.2 (by omega : ys.length ≤ xs.length)
  have HNM := Lib.hid (And.intro nx ny)
  obtain ⟨S, hS⟩ : ∃ s, s = (digs (num xs + num ys)).length := ⟨_, rfl⟩
  rw [← hS] at hslen
  obtain ⟨n, hn⟩ : ∃ n, n = xs.length := ⟨_, rfl⟩
  obtain ⟨m, hm⟩ : ∃ n, n = ys.length := ⟨_, rfl⟩
  have hn1 : n ≤ 256 := by omega
  have hm1 : m ≤ n := by omega
  rw [← hn] at hle HX hslen ⊢
  rw [← hm] at hle HY ⊢
  have hSn : n ≤ S := by omega
  have hSn1 : S ≤ n + 1 := by omega
  have HN := Lib.hid (And.intro hn (And.intro hm (And.intro hS hslen)))
  clear hcx hcy dx dy nx ny hn hm hS rx ry hslen
  by_cases hbig : 256 < S
  · have e : fitD (num xs + num ys) = ([], 3) := by rw [fitD, if_neg (by have := HN.out.2.2.1; omega)]
    rw [e]
    clear e
    go_enter Tryd.func22, Tryd.ntmps22
    go_wp2_with (first
      | (go_at_call 17; (with_reducible refine (right_yes (.slice A n cA) xs _ HX.out (by have := HN.out; omega)).mono ?_); rw [HR.out.1]; rintro e w1 ⟨rfl, rfl⟩)
      | (go_at_call 17; (with_reducible refine (right_yes (.slice B m cB) ys _ HY.out (by have := HN.out; omega)).mono ?_); rw [HR.out.2]; rintro e w1 ⟨rfl, rfl⟩)
      | (go_at_call 40; (with_reducible refine (sumLength_any (.slice A n cA) (.slice B m cB) xs ys _ HX.out HY.out HNM.out.1 HNM.out.2 (by have := HN.out; omega)).mono ?_); rw [← HN.out.2.2.1]; rintro e w1 ⟨rfl, rfl⟩))
    go_ret2
    exact ⟨_, rfl, Row.nil _, Since.refl _⟩
  · have e : fitD (num xs + num ys) = (digs (num xs + num ys), 0) := by rw [fitD, if_pos (by have := HN.out.2.2.1; omega)]
    rw [e]
    clear e
    have hS256 : S ≤ 256 := by omega
    have hmk := make_digits S (by omega)
    clear hbig
    go_enter Tryd.func22, Tryd.ntmps22
    go_wp2_with (first
      | (go_at_call 17; (with_reducible refine (right_yes (.slice A n cA) xs _ HX.out (by have := HN.out; omega)).mono ?_); rw [HR.out.1]; rintro e w1 ⟨rfl, rfl⟩)
      | (go_at_call 17; (with_reducible refine (right_yes (.slice B m cB) ys _ HY.out (by have := HN.out; omega)).mono ?_); rw [HR.out.2]; rintro e w1 ⟨rfl, rfl⟩)
      | (go_at_call 40; (with_reducible refine (sumLength_any (.slice A n cA) (.slice B m cB) xs ys _ HX.out HY.out HNM.out.1 HNM.out.2 (by have := HN.out; omega)).mono ?_); rw [← HN.out.2.2.1]; rintro e w1 ⟨rfl, rfl⟩))
    go_loopw [8, 35] (fun c i wr => ∃ (k t : Nat) (outs : List Nat), k ≤ m ∧ i = .int .i64 k ∧ c = .int .u32 t ∧ t ≤ 1 ∧ Hid (outs.length = k ∧ IsDig outs ∧ num outs + 4294967296 ^ k * t = num (xs.take k) + num (ys.take k)) ∧ Hid (Blk wr w.heap.size (splice (List.replicate S 0) 0 outs)) ∧ Since w wr) (fun _ i _ => m - (intOf i).toNat)
    case atStart => exact ⟨0, 0, [], by omega, rfl, rfl, by omega, ⟨rfl, isDig_nil, by simp [num]⟩, by rw [splice_nil]; exact Blk.made w S, since_made w _ _⟩
    case round =>
      obtain ⟨k, t, outs, hk, rfl, rfl, ht, ho, hb, hw⟩ := hrel
      by_cases hlt : k < m
      · have hjx : k < xs.length := by have := HN.out; omega
        have hjy : k < ys.length := by have := HN.out; omega
        obtain ⟨b, o, rfl, hcc⟩ := HC.out.1 (by omega)
        obtain ⟨b2, o2, rfl, hcc2⟩ := HC.out.2 (by omega)
        have hcell := (Below.cell hw (World.block_lt_of_cell? _ _ (hcc k hjx))).trans (hcc k hjx)
        have hcell2 := (Below.cell hw (World.block_lt_of_cell? _ _ (hcc2 k hjy))).trans (hcc2 k hjy)
        have hx1 := getD_lt HD.out.1 k
        have hy1 := getD_lt HD.out.2 k
        have hstep := plus_step ho.out.1 ho.out.2.2
        obtain ⟨x, hx⟩ : ∃ d, d = xs.getD k 0 := ⟨_, rfl⟩
        obtain ⟨y, hy⟩ : ∃ d, d = ys.getD k 0 := ⟨_, rfl⟩
        rw [← hx] at hcell hx1 hstep
        rw [← hy] at hcell2 hy1 hstep
        obtain ⟨s, hs⟩ : ∃ s, s = (x + y + t) % 4294967296 := ⟨_, rfl⟩
        obtain ⟨t2, ht2⟩ : ∃ s, s = (x + y + t) / 4294967296 := ⟨_, rfl⟩
        have HA := Lib.hid fun W => Bits.add32 x y t s t2 W hx1 hy1 (by omega) hs ht2
        rw [← hs, ← ht2] at hstep
        have hs1 : s < 4294967296 := by omega
        have ht21 : t2 ≤ 1 := by omega
        have hlen : (splice (List.replicate S 0) 0 outs).length = S := by rw [splice_len (by simp; have := ho.out.1; omega)]; simp
        have g1 := hb.out.cell (i := k) (by omega)
        have g2 := hb.out.frozen k
        have hset := hb.out.set (i := k) (d := s) (by omega) hs1
        have e1 := splice_set (ds := List.replicate S 0) (o := 0) (d := s) (outs := outs) (by simp; have := ho.out.1; omega)
        rw [ho.out.1, Nat.zero_add] at e1
        rw [e1] at hset
        obtain ⟨z, hz⟩ : ∃ d, d = (splice (List.replicate S 0) 0 outs).getD k 0 := ⟨_, rfl⟩
        rw [← hz] at g1
        have HS := Lib.hid (And.intro hstep hset)
        have hb1 : b ≠ w.heap.size := by have := World.block_lt_of_cell? _ _ (hcc k hjx); simp at this; omega
        have hb2 : b2 ≠ w.heap.size := by have := World.block_lt_of_cell? _ _ (hcc2 k hjy); simp at this; omega
        clear hcc hcc2 hx hy hs ht2 hstep hlen hset e1 hz hjx hjy
        have i1 : (0 : Int) ≤ (k : Int) := by omega
        have i2 : (k : Int) < (n : Int) := by omega
        have i3 : (k : Int) < (m : Int) := by omega
        have i4 : (k : Int) < (S : Int) := by omega
        go_wp2
        go_region_held3 (fun W => W.cell? ⟨b, o + k, none⟩ = some (.int .u32 (x : Int)) ∧ W.cell? ⟨b2, o2 + k, none⟩ = some (.int .u32 (y : Int)))
          (first | exact ⟨hcell, hcell2⟩ | exact ⟨cell_far hcell hb1 _, cell_far hcell2 hb2 _⟩)
          (first | (go_at_call 41; (with_reducible refine (HA.out _).mono ?_); rintro e w1 ⟨rfl, rfl⟩))
        all_goals
          go_wp2
          go_roundw
          case rel => exact ⟨k + 1, t2, outs ++ [s], by omega, by go_num, rfl, ht21, ⟨by rw [List.length_append, ho.out.1]; rfl, isDig_snoc ho.out.2.1 hs1, HS.out.1⟩, HS.out.2, Since.drew (Since.set hw (Nat.le_refl _) _)⟩
          case measure => simp [intOf]; omega
      · obtain rfl : k = m := by omega
        have HB := Lib.hid (And.intro hb.out hw)
        have HO := Lib.hid ho.out
        clear hb hw ho
        go_wp2
        go_loopw [8, 10] (fun c i wr => ∃ (k2 t : Nat) (outs : List Nat), k ≤ k2 ∧ k2 ≤ n ∧ i = .int .i64 k2 ∧ c = .int .u32 t ∧ t ≤ 1 ∧ Hid (outs.length = k2 ∧ IsDig outs ∧ num outs + 4294967296 ^ k2 * t = num (xs.take k2) + num (ys.take k2)) ∧ Hid (Blk wr w.heap.size (splice (List.replicate S 0) 0 outs)) ∧ Since w wr) (fun _ i _ => n - (intOf i).toNat)
        case atStart => exact ⟨k, t, outs, Nat.le_refl _, hm1, rfl, rfl, ht, HO.out, HB.out.1, HB.out.2⟩
        case round =>
          clear HB HO ht
          obtain ⟨k2, t, outs, hk1, hk2, rfl, rfl, ht, ho, hb, hw⟩ := hrel
          by_cases hlt2 : k2 < n
          · have hjx : k2 < xs.length := by have := HN.out; omega
            obtain ⟨b, o, rfl, hcc⟩ := HC.out.1 (by omega)
            have hcell := (Below.cell hw (World.block_lt_of_cell? _ _ (hcc k2 hjx))).trans (hcc k2 hjx)
            have hx1 := getD_lt HD.out.1 k2
            have hstep := plus_step ho.out.1 ho.out.2.2
            have hy0 : ys.getD k2 0 = 0 := getD_ge (by have := HN.out; omega)
            rw [hy0, Nat.add_zero] at hstep
            obtain ⟨x, hx⟩ : ∃ d, d = xs.getD k2 0 := ⟨_, rfl⟩
            rw [← hx] at hcell hx1 hstep
            obtain ⟨s, hs⟩ : ∃ s, s = (x + t) % 4294967296 := ⟨_, rfl⟩
            obtain ⟨t2, ht2⟩ : ∃ s, s = (x + t) / 4294967296 := ⟨_, rfl⟩
            have HA := Lib.hid fun W => Bits.add32m x t s t2 W hx1 (by omega) hs ht2
            rw [← hs, ← ht2] at hstep
            have hs1 : s < 4294967296 := by omega
            have ht21 : t2 ≤ 1 := by omega
            have hlen : (splice (List.replicate S 0) 0 outs).length = S := by rw [splice_len (by simp; have := ho.out.1; omega)]; simp
            have g1 := hb.out.cell (i := k2) (by omega)
            have g2 := hb.out.frozen k2
            have hset := hb.out.set (i := k2) (d := s) (by omega) hs1
            have e1 := splice_set (ds := List.replicate S 0) (o := 0) (d := s) (outs := outs) (by simp; have := ho.out.1; omega)
            rw [ho.out.1, Nat.zero_add] at e1
            rw [e1] at hset
            obtain ⟨z, hz⟩ : ∃ d, d = (splice (List.replicate S 0) 0 outs).getD k2 0 := ⟨_, rfl⟩
            rw [← hz] at g1
            have HS := Lib.hid (And.intro hstep hset)
            clear hcc hx hy0 hs ht2 hstep hlen hset e1 hz hjx
            go_wp2_with (go_at_call 41; (with_reducible refine (HA.out _).mono ?_); rintro e w1 ⟨rfl, rfl⟩)
            go_roundw
            case rel => exact ⟨k2 + 1, t2, outs ++ [s], by omega, by omega, by go_num, rfl, ht21, ⟨by rw [List.length_append, ho.out.1]; rfl, isDig_snoc ho.out.2.1 hs1, HS.out.1⟩, HS.out.2, hw.set (Nat.le_refl _) _⟩
            case measure => simp [intOf]; omega
          · obtain rfl : k2 = n := by omega
            have hv := ho.out.2.2
            rw [List.take_of_length_le (by have := HN.out; omega), List.take_of_length_le (by have := HN.out; omega)] at hv
            have hlO := ho.out.1
            have hdO := ho.out.2.1
            have hpow := num_lt hdO
            rw [hlO] at hpow
            by_cases hS2 : k2 < S
            · have eS : S = k2 + 1 := by omega
              have hge : 4294967296 ^ k2 ≤ num xs + num ys := by
                have h1 := HN.out.1
                have h2 := HN.out.2.2.2
                rcases h2 with h2 | h2
                · omega
                · exact h2.2
              have et : t = 1 := by
                rcases (show t = 0 ∨ t = 1 by omega) with rfl | rfl
                · exfalso; rw [Nat.mul_zero] at hv; omega
                · rfl
              have hlen : (splice (List.replicate S 0) 0 outs).length = S := by rw [splice_len (by simp; omega)]; simp
              have g1 := hb.out.cell (i := k2) (by omega)
              have g2 := hb.out.frozen k2
              have hset := hb.out.set (i := k2) (d := t) (by omega) (by omega)
              have e1 := splice_set (ds := List.replicate S 0) (o := 0) (d := t) (outs := outs) (by simp; omega)
              rw [hlO, Nat.zero_add] at e1
              rw [e1, splice_zero_end (by simp; omega)] at hset
              have ed : digs (num xs + num ys) = outs ++ [t] := by
                have := num_snoc outs t
                rw [hlO, hv] at this
                rw [← this]
                refine digs_of_ge (isDig_snoc hdO (by omega)) ?_
                rw [this]
                simpa [hlO] using hge
              obtain ⟨z, hz⟩ : ∃ d, d = (splice (List.replicate S 0) 0 outs).getD k2 0 := ⟨_, rfl⟩
              rw [← hz] at g1
              have HS := Lib.hid (And.intro ed (And.intro hset (show (outs ++ [t]).length = S by simp; omega)))
              clear hv hlO hdO hpow hge hlen hset e1 ed hz et
              subst eS
              go_wp2
              go_ret2
              exact ⟨_, rfl, by rw [HS.out.1]; exact HS.out.2.1.row_all HS.out.2.2 (Nat.le_refl _), hw.set (Nat.le_refl _) _⟩
            · have eS : S = k2 := by omega
              have hlo : num xs + num ys < 4294967296 ^ k2 := by
                have h1 := HN.out.1
                have h2 := HN.out.2.2.2
                rcases h2 with h2 | h2
                · exact h2.2
                · omega
              have et : t = 0 := by
                rcases (show t = 0 ∨ t = 1 by omega) with rfl | rfl
                · rfl
                · exfalso; rw [Nat.mul_one] at hv; omega
              subst et
              rw [Nat.mul_zero, Nat.add_zero] at hv
              have ed : digs (num xs + num ys) = outs := by
                have hS := HN.out.2.2.1
                rw [← hv] at hS ⊢
                have e3 := take_sig hdO
                rw [show sig outs = outs.length by show (digs (num outs)).length = _; omega, List.take_length] at e3
                exact e3
              have hb2 := hb.out
              rw [splice_zero_end (by omega)] at hb2
              have HS := Lib.hid (And.intro ed (And.intro hb2 (show outs.length = S by omega)))
              clear hv hlO hdO hpow hlo ed hb2
              subst eS
              go_wp2
              go_ret2
              exact ⟨_, rfl, by rw [HS.out.1]; exact HS.out.2.1.row_all HS.out.2.2 (Nat.le_refl _), hw⟩

theorem add_any (va vb : Value) (xs ys : List Nat) (w : World) (hx : Row w va xs) (hy : Row w vb ys) (lx : xs.length ≤ 10000) (ly : ys.length ≤ 10000) :
    Calls Tryd.prog 22 #[va, vb] w (RetRowErr (addD xs ys).1 (addD xs ys).2 w) := by
  by_cases r1 : rightB xs = true
  · by_cases r2 : rightB ys = true
    · rw [addD, if_pos ⟨r1, r2⟩]
      rcases Nat.lt_or_ge xs.length ys.length with h | h
      · rw [Nat.add_comm]
        exact add_short vb va ys xs w hy hx r2 r1 h
      · exact add_long va vb xs ys w hx hy r1 r2 h
    · have r2' : rightB ys = false := by simpa using r2
      rw [addD, if_neg (fun h => r2 h.2)]
      have H := Lib.hid (And.intro hx hy)
      clear r2 hx hy
      go_enter Tryd.func22, Tryd.ntmps22
      go_wp2_with (first
        | (go_at_call 17; (with_reducible refine (right_yes va xs _ H.out.1 lx).mono ?_); rintro e w1 ⟨rfl, rfl⟩)
        | (go_at_call 17; (with_reducible refine (right_yes vb ys _ H.out.2 ly).mono ?_); rintro e w1 ⟨rfl, rfl⟩))
      go_ret2
      exact ⟨_, rfl, Row.nil _, Since.refl _⟩
  · have r1' : rightB xs = false := by simpa using r1
    rw [addD, if_neg (fun h => r1 h.1)]
    have H := Lib.hid hx
    clear r1 hx hy
    go_enter Tryd.func22, Tryd.ntmps22
    go_wp2_with (first
      | (go_at_call 17; (with_reducible refine (right_yes va xs _ H.out lx).mono ?_); rintro e w1 ⟨rfl, rfl⟩))
    go_ret2
    exact ⟨_, rfl, Row.nil _, Since.refl _⟩
end Go.Proofs.YtkceldnljppflaaDoor.Nat02
