/- What divideLong of package nat gives back. -/
import Derived.Test.YtkceldnljppflaaDoorN2l
namespace Go.Proofs.YtkceldnljppflaaDoor.Nat02
open Go.RowKit
set_option linter.unusedVariables false
open Go.Proofs.YtkceldnljppflaaDoor.Dig

theorem bit_lt {x : Nat} (h : x < 4294967296) : x < 2 ^ Lib.bitLen x ∧ Lib.bitLen x ≤ 32 := by
  have h32 := Lib.bitLen_le x 32 (by omega) h
  refine ⟨?_, h32⟩
  rcases Nat.lt_or_ge x (2 ^ Lib.bitLen x) with h1 | h1
  · exact h1
  · have := bitLen_ge x (Lib.bitLen x) (by omega) (by omega) h1; omega
theorem bit_ge {x : Nat} (h : x < 4294967296) (h0 : 0 < x) : 1 ≤ Lib.bitLen x ∧ 2 ^ (Lib.bitLen x - 1) ≤ x := by
  have h1 : 1 ≤ Lib.bitLen x := bitLen_ge x 0 (by omega) (by omega) (by simp; omega)
  refine ⟨h1, ?_⟩
  rcases Nat.lt_or_ge x (2 ^ (Lib.bitLen x - 1)) with h2 | h2
  · have h3 := Lib.bitLen_le x (Lib.bitLen x - 1) (by have := (bit_lt h).2; omega) h2; omega
  · exact h2
/-- shifted by its leading noughts the highest bit of a digit is set -/
theorem shift_top {x s : Nat} (h : x < 4294967296) (h0 : 0 < x) (hs : s = 32 - Lib.bitLen x) : s ≤ 31 ∧ 2147483648 ≤ x * 2 ^ s ∧ (x + 1) * 2 ^ s ≤ 4294967296 := by
  obtain ⟨a, b⟩ := bit_lt h
  obtain ⟨c, d⟩ := bit_ge h h0
  refine ⟨by omega, ?_, ?_⟩
  · have h1 : 2 ^ (Lib.bitLen x - 1) * 2 ^ s ≤ x * 2 ^ s := Nat.mul_le_mul_right _ d
    rw [← Nat.pow_add, show Lib.bitLen x - 1 + s = 31 by omega] at h1
    exact h1
  · have h1 : (x + 1) * 2 ^ s ≤ 2 ^ Lib.bitLen x * 2 ^ s := Nat.mul_le_mul_right _ a
    rw [← Nat.pow_add, show Lib.bitLen x + s = 32 by omega] at h1
    exact h1
/-- the divisor, shifted: its digits but the last one, which is nought -/
theorem divisor_ok {ys rs : List Nat} {n s : Nat} (dy : IsDig ys) (ly : ys.length = n + 1) (dr : IsDig rs) (lr : rs.length = n + 2) (hr : num rs = num ys * 2 ^ s) (h1 : 2147483648 ≤ ys.getD n 0 * 2 ^ s) (h2 : (ys.getD n 0 + 1) * 2 ^ s ≤ 4294967296) :
    num (rs.take (n + 1)) = num ys * 2 ^ s ∧ 2147483648 ≤ (rs.take (n + 1)).getD n 0 ∧ num ys * 2 ^ s ≤ 4294967296 ^ (n + 1) := by
  have hy := num_take_succ ys n
  rw [List.take_of_length_le (by omega : ys.length ≤ n + 1)] at hy
  have hyt := num_take_lt dy (j := n) (by omega)
  have hlt : num ys * 2 ^ s < 4294967296 ^ (n + 1) := by
    have a : num ys + 1 ≤ 4294967296 ^ n * (ys.getD n 0 + 1) := by rw [Nat.mul_add]; omega
    have b : (num ys + 1) * 2 ^ s ≤ 4294967296 ^ n * (ys.getD n 0 + 1) * 2 ^ s := Nat.mul_le_mul_right _ a
    have c : 4294967296 ^ n * ((ys.getD n 0 + 1) * 2 ^ s) ≤ 4294967296 ^ n * 4294967296 := Nat.mul_le_mul_left _ h2
    have d : 0 < 2 ^ s := Nat.pow_pos (by omega)
    have e : (num ys + 1) * 2 ^ s = num ys * 2 ^ s + 2 ^ s := by rw [Nat.add_mul, Nat.one_mul]
    rw [Nat.mul_assoc] at b
    rw [Nat.pow_succ]
    omega
  have hr2 := num_take_succ rs (n + 1)
  rw [List.take_of_length_le (by omega : rs.length ≤ n + 1 + 1)] at hr2
  have h0 : rs.getD (n + 1) 0 = 0 := by
    rcases Nat.eq_zero_or_pos (rs.getD (n + 1) 0) with h | h
    · exact h
    · have : 4294967296 ^ (n + 1) * 1 ≤ 4294967296 ^ (n + 1) * rs.getD (n + 1) 0 := Nat.mul_le_mul_left _ h
      omega
  rw [h0, Nat.mul_zero, Nat.add_zero, hr] at hr2
  refine ⟨hr2.symm, ?_, Nat.le_of_lt hlt⟩
  have ht := num_take_succ (rs.take (n + 1)) n
  rw [List.take_of_length_le (by simp; omega : (rs.take (n + 1)).length ≤ n + 1), ← hr2] at ht
  have htl := num_take_lt (isDig_take dr (n + 1)) (j := n) (by simp; omega)
  rcases Nat.lt_or_ge ((rs.take (n + 1)).getD n 0) 2147483648 with h | h
  · exfalso
    have a : 4294967296 ^ n * ((rs.take (n + 1)).getD n 0 + 1) ≤ 4294967296 ^ n * 2147483648 := Nat.mul_le_mul_left _ h
    have b : 4294967296 ^ n * 2147483648 ≤ 4294967296 ^ n * (ys.getD n 0 * 2 ^ s) := Nat.mul_le_mul_left _ h1
    have c : 4294967296 ^ n * (ys.getD n 0 * 2 ^ s) ≤ num ys * 2 ^ s := by
      rw [← Nat.mul_assoc]
      exact Nat.mul_le_mul_right _ (by omega)
    rw [Nat.mul_add] at a
    omega
  · exact h
theorem only_new {a w w' : World} {g g' : Nat} (h : a.grownBy w (some g)) (k : w.grownBy w' (some g')) (hg : a.heap.size ≤ g') : a.grownBy w' (some g) :=
  ⟨k.os.trans h.os, k.tape.trans h.tape, k.output.trans h.output, Nat.le_trans h.size k.size, fun i hi hn => (k.block i (Nat.lt_of_lt_of_le hi h.size) (fun e => by injection e; omega)).trans (h.block i hi hn)⟩

/-- what a long division leaves: the quotient in its place, and a new slice with the rest -/
def RetLong (gq m : Nat) (xs ys : List Nat) (w : World) (e : Ending) (w' : World) : Prop :=
  ∃ (g : Nat) (qs : List Nat), e = .returned (.slice (some ⟨g, 0, none⟩) (digs (num xs % num ys)).length (digs (num xs % num ys)).length) ∧
    Row w' (.slice (some ⟨g, 0, none⟩) (digs (num xs % num ys)).length (digs (num xs % num ys)).length) (digs (num xs % num ys)) ∧
    Blk w' gq qs ∧ qs.length = m ∧ num qs = num xs / num ys ∧ w.grownBy w' (some gq)

set_option maxRecDepth 100000 in
set_option maxHeartbeats 8000000 in
theorem divideLong_any (gq m r : Nat) (va vb : Value) (xs ys : List Nat) (w : World) (hq : Blk w gq (List.replicate m 0)) (hx : Row w va xs) (hy : Row w vb ys) (fx : Far gq va) (fy : Far gq vb) (lx : xs.length ≤ 1000)
    (ly : ys.length = r + 2) (ny : Norm ys) (hm : 1 ≤ m) (hm2 : m ≤ xs.length + 1 - (r + 2)) (hle : r + 2 ≤ xs.length) (hlt : num xs < num ys * 4294967296 ^ m) :
    Calls Tryd.prog 52 #[.slice (some ⟨gq, 0, none⟩) m m, va, vb] w (RetLong gq m xs ys w) := by
  have HX := Lib.hid hx
  have HY := Lib.hid hy
  have dy := hy.dig
  have hp := num_pos ny (by omega)
  obtain ⟨dx, A, cA, rfl, -, -⟩ := hx
  obtain ⟨_, B, cB, rfl, hcy, -⟩ := hy
  obtain ⟨b0, o0, rfl, hcc⟩ := hcy (by omega)
  have hcell := hcc (r + 1) (by omega)
  have ht1 := getD_lt dy (r + 1)
  have ht0 : 0 < ys.getD (r + 1) 0 := by
    rcases ny with h | h
    · omega
    · rw [ly, show r + 2 - 1 = r + 1 by omega] at h; omega
  obtain ⟨s, hs⟩ : ∃ s, s = 32 - Lib.bitLen (ys.getD (r + 1) 0) := ⟨_, rfl⟩
  obtain ⟨s31, sA, sB⟩ := shift_top ht1 ht0 hs
  have hz := fun W => Bits.zeros32 ((ys.getD (r + 1) 0 : Nat) : Int) W (by omega) (by omega)
  have hbl := (bit_lt ht1).2
  obtain ⟨t, htt⟩ : ∃ t, t = ys.getD (r + 1) 0 := ⟨_, rfl⟩
  rw [← htt] at hcell ht1 ht0 hs hbl
  have hz2 : ∀ W, Calls Tryd.prog 64 #[.int .u32 (t : Int)] W fun e w' => e = .returned (.int .i64 (s : Int)) ∧ W = w' := fun W => by
    have h := hz W
    rw [← htt, Int.toNat_natCast, show (32 - (Lib.bitLen t : Int)) = (s : Int) by omega] at h
    exact h.mono fun e w' ⟨a, b⟩ => ⟨a, b.symm⟩
  have HZ := Lib.hid hz2
  obtain ⟨L, hL⟩ : ∃ l, l = xs.length := ⟨_, rfl⟩
  obtain ⟨n, hn⟩ : ∃ n, n = r + 2 := ⟨_, rfl⟩
  have hU1 := fun (W : World) (h : Row W (.slice A L cA) xs) => shiftUp_any (.slice A L cA) xs s W h (by omega) s31
  have hU2 := fun (W : World) (h : Row W (.slice (some ⟨b0, o0, none⟩) n cB) ys) => shiftUp_any (.slice (some ⟨b0, o0, none⟩) n cB) ys s W h (by omega) s31
  have HU := Lib.hid (And.intro hU1 hU2)
  rw [← hL] at HX fx hle hm2 lx ⊢
  rw [ly, ← hn] at HY fy ⊢
  rw [← hn] at hle hm2
  have hn1 : (n : Int) - 1 = ((r + 1 : Nat) : Int) := by omega
  have hN := Lib.hid (And.intro hL (And.intro ly (And.intro hn (And.intro dy (And.intro sA sB)))))
  have HP := Lib.hid (And.intro hp (And.intro hlt (And.intro fx (And.intro fy hq))))
  have i1 : (0 : Int) ≤ (r : Int) + 1 := by omega
  have i2 : (r : Int) + 1 < (n : Int) := by omega
  have i3 : ((r : Int) + 1).toNat = r + 1 := by omega
  have hn2 : (n : Int) - 1 = (r : Int) + 1 := by omega
  have hn3 : n ≤ 1000 := by omega
  have hm3 : m ≤ 1000 := by omega
  clear hz hz2 hU1 hU2 hs ht1 ht0 hbl htt hcy hcc dx dy hp hlt fx fy hq ly hL hn ny sA sB hn1
  go_enter Tryd.func52, Tryd.ntmps52
  go_wp2_with (first
    | (go_at_call 64; (with_reducible refine (HZ.out _).mono ?_); rintro e w1 ⟨rfl, rfl⟩))
  refine (HU.out.1 _ HX.out).mono ?_
  rintro e w1 ⟨gr, R0, rfl, hg1, hb1, hl1, hv1, hs1⟩
  have H1 := Lib.hid (And.intro hg1 (And.intro hb1 (And.intro hl1 (And.intro hv1 hs1))))
  have e1 := hN.out.1
  have E1 := Lib.hid e1
  rw [← e1]
  clear e1 hg1 hb1 hl1 hv1 hs1
  go_wp2_with fail
  refine (HU.out.2 _ (HY.out.since H1.out.2.2.2.2)).mono ?_
  rintro e w2 ⟨gd, D0, rfl, hg2, hb2, hl2, hv2, hs2⟩
  have H2 := Lib.hid (And.intro hg2 (And.intro hb2 (And.intro hl2 (And.intro hv2 hs2))))
  have e2 : ys.length = n := by have h := hN.out; omega
  rw [e2]
  clear e2 hg2 hb2 hl2 hv2 hs2
  go_wp2_with fail
  have hLL := hN.out
  have hPP := HP.out
  have h1 := H1.out
  have h2 := H2.out
  have hgq := hPP.2.2.2.2.lt
  have hgr := h1.2.1.lt
  have hD := divisor_ok (ys := ys) (rs := D0) (n := r + 1) (s := s) hLL.2.2.2.1 hLL.2.1 h2.2.1.dig (by omega) h2.2.2.2.1 hLL.2.2.2.2.1 hLL.2.2.2.2.2
  rw [show r + 1 + 1 = n by omega] at hD
  obtain ⟨V, hV⟩ : ∃ v, v = num ys * 2 ^ s := ⟨_, rfl⟩
  obtain ⟨A2, hA2⟩ : ∃ v, v = num xs * 2 ^ s := ⟨_, rfl⟩
  rw [← hV] at hD
  have hVp : 0 < V := by rw [hV]; exact Nat.mul_pos hPP.1 (Nat.pow_pos (by omega))
  have hst : LongInv A2 V n L m m R0 [] := by
    refine long_start h1.2.1.dig (by omega) (by omega) (by rw [h1.2.2.2.1, hA2]) ?_
    rw [hA2, hV, Nat.mul_right_comm]
    exact Nat.mul_lt_mul_of_pos_right hPP.2.1 (Nat.pow_pos (by omega))
  have hqr : Row w2 (.slice (some ⟨gd, 0, none⟩) n (n + 1)) (D0.take n) := by
    have := h2.2.1.row (o := 0) (n := n) (c := n + 1) (by omega) (by omega)
    rwa [List.drop_zero] at this
  have hlD : (D0.take n).length = r + 2 := by simp; omega
  have hs12 := h1.2.2.2.2.trans h2.2.2.2.2
  have HG := Lib.hid (And.intro hst (And.intro (h1.2.1.since h2.2.2.2.2) (And.intro (hPP.2.2.2.2.since hs12) (And.intro h2.2.1 (only_of_since (g := gq) hs12)))))
  have HB := Lib.hid (And.intro (show gq ≠ gr by omega) (And.intro (show gd ≠ gr by omega) (And.intro (show gd ≠ gq by omega) (show w.heap.size ≤ gr by omega))))
  have HD := Lib.hid (And.intro hD (And.intro hVp (And.intro hlD (And.intro hV hA2))))
  clear hLL hPP h1 h2 hgq hgr hD hVp hst hqr hlD hs12 hV hA2
  go_loopw [10] (fun i wr => ∃ (k : Nat) (R qs : List Nat), k ≤ m ∧ i = .int .i64 ((k : Int) - 1) ∧ Hid (LongInv A2 V n L m k R qs) ∧ Hid (Blk wr gr R ∧ Blk wr gq (splice (List.replicate m 0) k qs) ∧ Blk wr gd D0 ∧ w.grownBy wr (some gq))) (fun i _ => (intOf i + 1).toNat)
  case atStart => exact ⟨m, R0, [], Nat.le_refl _, by go_num, HG.out.1, HG.out.2.1, by rw [splice_nil]; exact HG.out.2.2.1, HG.out.2.2.2.1, HG.out.2.2.2.2⟩
  case round =>
    clear HG
    obtain ⟨k, R, qs, hk, rfl, hv, hb⟩ := hrel
    rcases k with _ | j
    · obtain ⟨e1, e2, e3, e4⟩ := long_end hv.out
      have hdd := HD.out
      have hp2 := Nat.pow_pos (n := s) (show 0 < 2 by omega)
      rw [hdd.2.2.2.1, hdd.2.2.2.2] at e1 e2
      rw [Nat.mul_div_mul_right _ _ hp2] at e1
      rw [Nat.mul_mod_mul_right] at e2
      have hlen : R.length = L + 1 := hv.out.2.1
      have hb1 := hb.out.1
      have hbq : Blk wr gq qs := by
        have := hb.out.2.1
        have e5 : splice (List.replicate m 0) 0 qs = qs := splice_zero_end e4
        rwa [e5] at this
      have HSD := Lib.hid fun (W : World) (h : Blk W gr R) => shiftDown_any gr R s W h (by omega) s31
      rw [hlen] at HSD
      have HE := Lib.hid (And.intro e1 (And.intro e2 (And.intro e4 (And.intro hlen (And.intro hb1 (And.intro hbq hb.out.2.2.2))))))
      clear e1 e2 e3 e4 hdd hp2 hlen hb1 hbq
      go_wp2_with fail
      refine (HSD.out _ HE.out.2.2.2.2.1).mono ?_
      rintro e w3 ⟨rfl, rs, hrl, hrn, hrb, hrg⟩
      have hrn2 : num rs = num xs % num ys := by
        rw [hrn, HE.out.2.1, Nat.mul_div_cancel _ (Nat.pow_pos (by omega))]
      have hrow := hrb.row_all (c := L + 1) hrl (Nat.le_refl _)
      have hsig := sig_le hrb.dig
      have htk := take_sig hrb.dig
      have hbq3 := HE.out.2.2.2.2.2.1.grown hrg (by intro h; injection h with h; exact HB.out.1 h)
      have hon3 := only_new HE.out.2.2.2.2.2.2 hrg HB.out.2.2.2
      have hsl : (rs.take (sig rs)).length = sig rs := by simp; omega
      obtain ⟨S, hS⟩ : ∃ s, s = sig rs := ⟨_, rfl⟩
      rw [← hS] at hsl htk hsig
      have HR := Lib.hid (And.intro hrow (And.intro hrn2 (And.intro htk (And.intro hbq3 (And.intro hon3 (And.intro hsl (And.intro hrl (And.intro hS hsig))))))))
      clear hrl hrn hrb hrg hrn2 hrow hsig htk hbq3 hon3 hsl hS
      go_wp2_with fail
      refine (significant_any (.slice (some ⟨gr, 0, none⟩) (L + 1) (L + 1)) rs _ HR.out.1 (by have := HR.out.2.2.2.2.2.2.1; omega)).mono ?_
      rw [← HR.out.2.2.2.2.2.2.2.1]
      rintro e w4 ⟨rfl, rfl⟩
      go_wp2_with fail
      refine (clone_any (.slice (some ⟨gr, 0, none⟩) (L + 1) (L + 1)) rs S _ HR.out.1 HR.out.2.2.2.2.2.2.2.2 (by have := HR.out.2.2.2.2.2.2.1; omega)).mono ?_
      rintro e w5 ⟨g5, rfl, hg5, hb5, hs5⟩
      rw [HR.out.2.2.2.2.2.1]
      have hfin : RetLong gq m xs ys w (.returned (.slice (some ⟨g5, 0, none⟩) S S)) w5 := by
        have hr := HR.out
        have e5 : digs (num xs % num ys) = rs.take S := by rw [← hr.2.1]; exact hr.2.2.1
        refine ⟨g5, qs, by rw [e5, hr.2.2.2.2.2.1], by rw [e5, hr.2.2.2.2.2.1]; exact hb5.row_all hr.2.2.2.2.2.1 (Nat.le_refl _), hr.2.2.2.1.since hs5, HE.out.2.2.1, HE.out.1, only_trans hr.2.2.2.2.1 (only_of_since hs5)⟩
      have HF := Lib.hid hfin
      clear hfin hg5 hb5 hs5
      go_wp2_with fail
      go_ret
      exact HF.out
    · have e : ((j + 1 : Nat) : Int) - 1 = (j : Int) := by omega
      rw [e]
      clear e
      have hdd := HD.out
      have hLL := hN.out
      have hlen : R.length = L + 1 := hv.out.2.1
      have hwlt := window_lt hv.out.1 hv.out.2.2.2.2.2 hdd.1.2.2 (by omega)
      have hrowD : Row wr (.slice (some ⟨gd, 0, none⟩) n (n + 1)) (D0.take n) := by
        have hl0 : D0.length = n + 1 := by have := H2.out.2.2.1; omega
        have := hb.out.2.2.1.row (o := 0) (n := n) (c := n + 1) (by omega) (by omega)
        rwa [List.drop_zero] at this
      have hstep := divideStep_any gr j r (L + 1 - j) (.slice (some ⟨gd, 0, none⟩) n (n + 1)) R (D0.take n) wr hb.out.1 (by omega) hrowD (Far.blk HB.out.2.1) hdd.2.2.1 (by omega) (by omega) hdd.1.2.1 (by rw [hdd.1.1, show r + 3 = n + 1 by omega]; exact hwlt)
      rw [show r + 3 = n + 1 by omega] at hstep
      have HST := Lib.hid hstep
      have hjm : j < m := by omega
      have hqlen : (splice (List.replicate m 0) (j + 1) qs).length = m := by rw [splice_len (by have := hv.out.2.2.2.1; simp; omega)]; simp
      have j1 : (0 : Int) ≤ (j : Int) := by omega
      have j2 : (j : Int) + (n : Int) + 1 ≤ (L : Int) + 1 := by omega
      have j3 : L + 1 ≠ j := by omega
      have j4 : j + n + 1 - j = n + 1 := by omega
      have j5 : ((j : Int) + (n : Int) + 1).toNat = j + n + 1 := by omega
      have j6 : (j : Int) ≤ (j : Int) + (n : Int) + 1 := by omega
      have HQ := Lib.hid (And.intro hqlen hlen)
      clear hdd hLL hlen hwlt hrowD hstep hqlen
      go_wp2_with fail
      refine HST.out.mono ?_
      rintro e w4 ⟨O, rfl, hO1, hO2, hO3, hO4, hO5⟩
      have hqn : num ((R.drop j).take (n + 1)) / num (D0.take n) < 4294967296 := by
        rw [HD.out.1.1, Nat.div_lt_iff_lt_mul HD.out.2.1, Nat.mul_comm]
        exact window_lt hv.out.1 hv.out.2.2.2.2.2 HD.out.1.2.2 (by have := HQ.out; omega)
      have hnext := long_step (q := num ((R.drop j).take (n + 1)) / num (D0.take n)) hv.out HD.out.1.2.2 (by omega) hO1 hO2 (by rw [hO3, HD.out.1.1]) (by rw [HD.out.1.1]) hqn HD.out.2.1
      obtain ⟨q, hq⟩ : ∃ q, q = num ((R.drop j).take (n + 1)) / num (D0.take n) := ⟨_, rfl⟩
      rw [← hq] at hqn hnext ⊢
      have hbq4 := hb.out.2.1.grown hO5 (by intro h; injection h with h; exact HB.out.1 h)
      have hbd4 := hb.out.2.2.1.grown hO5 (by intro h; injection h with h; exact HB.out.2.1 h)
      have hon4 := only_new hb.out.2.2.2 hO5 HB.out.2.2.2
      have f1 := hbq4.cell (i := j) (by have := HQ.out; omega)
      have f2 := hbq4.frozen j
      have hbq5 := hbq4.set (i := j) (d := q) (by have := HQ.out; omega) hqn
      rw [splice_set_down (by simp; omega)] at hbq5
      have hr5 := hO4.setOther (a := ⟨gq, j, none⟩) (by exact fun h => HB.out.1 h.symm) (.int .u32 (q : Int))
      have hd5 := hbd4.setOther (a := ⟨gq, j, none⟩) (by exact HB.out.2.2.1) (.int .u32 (q : Int))
      have hon5 := only_set (i := j) hon4 (.int .u32 (q : Int))
      obtain ⟨z, hz⟩ : ∃ z, z = (splice (List.replicate m 0) (j + 1) qs).getD j 0 := ⟨_, rfl⟩
      rw [← hz] at f1
      have HX5 := Lib.hid (And.intro hnext (And.intro hr5 (And.intro hbq5 (And.intro hd5 hon5))))
      clear hO1 hO2 hO3 hO4 hO5 hnext hq hbq4 hbd4 hon4 hbq5 hr5 hd5 hon5 hz
      go_wp2_with fail
      go_roundw
      case rel => exact ⟨j, splice R j O, q :: qs, by omega, rfl, HX5.out.1, HX5.out.2.1, HX5.out.2.2.1, HX5.out.2.2.2.1, HX5.out.2.2.2.2⟩
      case measure => simp [intOf] <;> omega
end Go.Proofs.YtkceldnljppflaaDoor.Nat02
