/- What isDecimal, readGroup and timesDigit of package nat give back. -/
import Derived.Test.YtkceldnljppflaaDoorN2h
import Derived.Test.YtkceldnljppflaaDoorRef02p
namespace Go.Proofs.YtkceldnljppflaaDoor.Nat02
open Go.RowKit
set_option linter.unusedVariables false
open Go.Proofs.YtkceldnljppflaaDoor.Dig
open Go.Proofs.YtkceldnljppflaaDoor.Ref02 (parseD getD_byte take_byte allDec_take_false undec_len)

/-- is it a decimal number without noughts ahead -/
def decB (bs : List UInt8) : Bool := !(decide (bs.length = 0 ∨ (1 < bs.length ∧ (bs.getD 0 0).toNat = 48))) && allDec bs
theorem len_list (b : ByteArray) : b.data.toList.length = b.size := Array.length_toList

set_option maxRecDepth 100000 in
set_option maxHeartbeats 1000000 in
theorem isDecimal_any (s : ByteArray) (w : World) (hs : s.size ≤ 1000000) :
    Calls Tryd.prog 57 #[.string s] w fun e w' => e = .returned (.bool (decB s.data.toList)) ∧ w = w' := by
  have hz := len_list s
  by_cases h0 : s.size = 0
  · have e : decB s.data.toList = false := by
      unfold decB; rw [decide_eq_true (.inl (by omega))]; rfl
    rw [e]
    have he : s.toList = [] := by rw [ByteArray.toList_eq]; exact List.eq_nil_of_length_eq_zero (by omega)
    have h0' : ((s.size : Int) == 0) = true := by rw [beq_iff_eq]; omega
    clear e hz h0
    go_enter Tryd.func57, Tryd.ntmps57
    go_wp2
    go_ret
    exact ⟨rfl, rfl⟩
  · have hp : 0 < s.size := by omega
    have h0' : ((s.size : Int) == 0) = false := by rw [beq_eq_false_iff_ne]; omega
    by_cases h1 : 1 < s.size ∧ s[0].toNat = 48
    · have e : decB s.data.toList = false := by
        unfold decB
        rw [decide_eq_true (.inr ⟨by omega, by rw [getD_byte s 0 hp]; exact h1.2⟩)]; rfl
      rw [e]
      obtain ⟨h2, h3⟩ := h1
      have h4 : ((s[0].toNat : Int) == 48) = true := by rw [beq_iff_eq]; omega
      clear e hz h0 h3
      go_enter Tryd.func57, Tryd.ntmps57
      go_wp2
      go_ret
      exact ⟨rfl, rfl⟩
    · have e : decB s.data.toList = allDec s.data.toList := by
        unfold decB
        rw [decide_eq_false, Bool.not_false, Bool.true_and]
        rintro (h | h)
        · omega
        · rw [getD_byte s 0 hp] at h
          exact h1 ⟨by omega, h.2⟩
      obtain ⟨R, hR⟩ : ∃ r, r = allDec s.data.toList := ⟨_, rfl⟩
      rw [e, ← hR]
      have HR := Lib.hid hR
      have HZ := Lib.hid hz
      have h2 : s.size ≤ 1 ∨ (1 < s.size ∧ ((s[0].toNat : Int) == 48) = false) := by
        rcases Nat.lt_or_ge 1 s.size with h | h
        · right
          refine ⟨h, ?_⟩
          rw [beq_eq_false_iff_ne]
          intro h3
          exact h1 ⟨h, by omega⟩
        · left; exact h
      clear e hR hz h0 h1
      rcases h2 with h2 | ⟨h2, h3⟩
      all_goals
        go_enter Tryd.func57, Tryd.ntmps57
        go_wp2
        go_loop [19] (fun i => ∃ k : Nat, k ≤ s.size ∧ i = .int .i64 k ∧ Hid (allDec (s.data.toList.take k) = true)) (fun i => s.size - (intOf i).toNat)
        case atStart => exact ⟨0, Nat.zero_le _, rfl, rfl⟩
        case round =>
          obtain ⟨k, hk, rfl, had⟩ := hrel
          by_cases hlt : k < s.size
          · have ht := take_byte s k hlt
            by_cases hb : 48 ≤ s[k].toNat ∧ s[k].toNat ≤ 57
            · obtain ⟨hb1, hb2⟩ := hb
              have h3 : allDec (s.data.toList.take (k + 1)) = true := by
                rw [ht, allDec_snoc, had.out]; simp; omega
              have H3 := Lib.hid h3
              clear ht h3
              go_wp2
              go_round
              case rel => exact ⟨k + 1, by omega, by go_num, H3⟩
              case measure => simp [intOf]; omega
            · have h3 : allDec (s.data.toList.take (k + 1)) = false := by
                rw [ht, allDec_snoc, had.out]; simp; omega
              have e : R = false := by rw [HR.out]; exact allDec_take_false h3
              subst e
              clear ht h3
              rcases (show s[k].toNat < 48 ∨ (48 ≤ s[k].toNat ∧ 57 < s[k].toNat) by omega) with hb1 | ⟨hb1, hb2⟩
              · clear hb
                go_wp2
                go_ret
                exact ⟨rfl, rfl⟩
              · clear hb
                go_wp2
                go_ret
                exact ⟨rfl, rfl⟩
          · have had2 : R = true := by
              have := had.out
              rw [List.take_of_length_le (by have := HZ.out; omega)] at this
              rw [HR.out]; exact this
            subst had2
            go_wp2
            go_ret
            exact ⟨rfl, rfl⟩

set_option maxRecDepth 100000 in
set_option maxHeartbeats 1000000 in
theorem readGroup_any (s : ByteArray) (w : World) (hs : s.size ≤ 9) (ha : allDec s.data.toList = true) :
    Calls Tryd.prog 58 #[.string s] w fun e w' => e = .returned (.int .u32 ((undec s.data.toList : Nat) : Int)) ∧ w = w' := by
  have HA := Lib.hid ha
  have HZ := Lib.hid (len_list s)
  clear ha
  go_enter Tryd.func58, Tryd.ntmps58
  go_wp2
  go_loop [3, 7] (fun g i => ∃ k u : Nat, k ≤ s.size ∧ i = .int .i64 k ∧ g = .int .u32 (u : Int) ∧ Hid (u = undec (s.data.toList.take k))) (fun _ i => s.size - (intOf i).toNat)
  case atStart => exact ⟨0, 0, Nat.zero_le _, rfl, rfl, rfl⟩
  case round =>
    obtain ⟨k, u, hk, rfl, rfl, hv⟩ := hrel
    have hall : ∀ j, allDec (s.data.toList.take j) = true := fun j => by
      have h := HA.out
      have e : s.data.toList = s.data.toList.take j ++ s.data.toList.drop j := (List.take_append_drop j _).symm
      rw [e] at h
      simp only [allDec, List.all_append, Bool.and_eq_true] at h
      exact h.1
    by_cases hlt : k < s.size
    · have ht := take_byte s k hlt
      have hb : 48 ≤ s[k].toNat ∧ s[k].toNat ≤ 57 := by
        have := hall (k + 1)
        rw [ht, allDec_snoc, Bool.and_eq_true] at this
        simpa using this.2
      obtain ⟨hb1, hb2⟩ := hb
      have hlen := undec_len (hall k)
      rw [List.length_take, ← hv.out] at hlen
      have hp := Nat.pow_le_pow_right (n := 10) (by omega) (show min k s.data.toList.length ≤ 8 by omega)
      have hu : u < 100000000 := Nat.lt_of_lt_of_le hlen hp
      have hun := undec_snoc (s.data.toList.take k) s[k]
      rw [← ht, ← hv.out] at hun
      obtain ⟨u2, hu2⟩ : ∃ u2, u2 = 10 * u + (s[k].toNat - 48) := ⟨_, rfl⟩
      have hui : 10 * (u : Int) + ((s[k].toNat : Int) - 48) = (u2 : Int) := by omega
      rw [← hu2] at hun
      have HU := Lib.hid hun
      clear ht hlen hp hun hu2 hall
      go_wp2
      go_round
      case rel => exact ⟨k + 1, u2, by omega, by go_num, by first | rfl | rw [hui], HU.out.symm⟩
      case measure => simp [intOf]; omega
    · obtain rfl : k = s.size := by omega
      have e := hv.out
      rw [List.take_of_length_le (by have := HZ.out; omega)] at e
      subst e
      clear hall
      go_wp2
      go_ret
      exact ⟨rfl, rfl⟩

theorem timesD_step {W outs : List Nat} {k c c0 d : Nat} (hl : outs.length = k) (h : num outs + 4294967296 ^ k * c = num (W.take k) * d + c0) :
    num (outs ++ [(W.getD k 0 * d + c) % 4294967296]) + 4294967296 ^ (k + 1) * ((W.getD k 0 * d + c) / 4294967296) = num (W.take (k + 1)) * d + c0 := by
  rw [num_snoc, hl, num_take_succ]
  generalize hn : W.getD k 0 * d + c = n
  have e : 4294967296 ^ k * (n % 4294967296) + 4294967296 ^ (k + 1) * (n / 4294967296) = 4294967296 ^ k * n := by
    rw [Nat.pow_succ, Nat.mul_assoc, ← Nat.mul_add, Nat.mod_add_div]
  have e2 : 4294967296 ^ k * n = 4294967296 ^ k * (W.getD k 0 * d) + 4294967296 ^ k * c := by
    rw [← hn, Nat.mul_add]
  have e3 : (num (W.take k) + 4294967296 ^ k * W.getD k 0) * d = num (W.take k) * d + 4294967296 ^ k * (W.getD k 0 * d) := by grind
  omega
theorem times_plus0 (x y a h l : Nat) (w : World) (hx : x < 4294967296) (hy : y < 4294967296) (ha : a < 4294967296) (hh : h = (x * y + a) / 4294967296) (hl : l = (x * y + a) % 4294967296) :
    Calls Tryd.prog 62 #[.int .u32 (x : Int), .int .u32 (y : Int), .int .u32 (a : Int), .int .u32 0] w (Bits.Two h l w) := Bits.times_plus x y a 0 h l w hx hy ha (by omega) hh hl

set_option maxRecDepth 100000 in
set_option maxHeartbeats 4000000 in
theorem timesDigit_any (g n c d c0 : Nat) (ds : List Nat) (w : World) (hg : Blk w g ds) (ho : n ≤ ds.length) (hl : ds.length ≤ 10000) (hd : d < 4294967296) (hc0 : c0 < 4294967296) (hfit : num (ds.take n) * d + c0 < 4294967296 ^ n) :
    Calls Tryd.prog 59 #[.slice (some ⟨g, 0, none⟩) n c, .int .u32 (d : Int), .int .u32 (c0 : Int)] w fun e w' => e = .returned (.tuple #[]) ∧ ∃ outs, outs.length = n ∧ IsDig outs ∧ num outs = num (ds.take n) * d + c0 ∧ Blk w' g (splice ds 0 outs) ∧ w.grownBy w' (some g) := by
  have HG := Lib.hid hg
  have HN := Lib.hid (And.intro ho (And.intro hl hfit))
  have hn1 : n ≤ 10000 := by omega
  clear hg ho hl hfit
  go_enter Tryd.func59, Tryd.ntmps59
  go_wp2
  go_loopw [2, 9] (fun cv i wr => ∃ (k t : Nat) (outs : List Nat), k ≤ n ∧ i = .int .i64 k ∧ cv = .int .u32 t ∧ t < 4294967296 ∧ Hid (outs.length = k ∧ IsDig outs ∧ num outs + 4294967296 ^ k * t = num (ds.take k) * d + c0) ∧ Hid (Blk wr g (splice ds 0 outs) ∧ w.grownBy wr (some g))) (fun _ i _ => n - (intOf i).toNat)
  case atStart => exact ⟨0, c0, [], by omega, rfl, rfl, hc0, ⟨rfl, isDig_nil, by simp [num]⟩, by rw [splice_nil]; exact ⟨HG.out, only_refl _ _⟩⟩
  case round =>
    obtain ⟨k, t, outs, hk, rfl, rfl, ht, hv, hb⟩ := hrel
    by_cases hlt : k < n
    · have hN := HN.out
      have hlen : (splice ds 0 outs).length = ds.length := by rw [splice_len (by have := hv.out.1; omega)]
      have g1 := hb.out.1.cell (i := k) (by omega)
      have g2 := hb.out.1.frozen k
      rw [splice_getD_ge (by have := hv.out.1; omega) (by omega)] at g1
      have hx1 := getD_lt HG.out.dig k
      have hstep := timesD_step (d := d) hv.out.1 hv.out.2.2
      obtain ⟨x, hx⟩ : ∃ d, d = ds.getD k 0 := ⟨_, rfl⟩
      rw [← hx] at hstep g1 hx1
      have hfit := timesPlus_fit hx1 hd ht (show 0 < 4294967296 by omega)
      obtain ⟨s, hs⟩ : ∃ s, s = (x * d + t) % 4294967296 := ⟨_, rfl⟩
      obtain ⟨t2, ht2⟩ : ∃ s, s = (x * d + t) / 4294967296 := ⟨_, rfl⟩
      have HA := Lib.hid fun W => times_plus0 x d t t2 s W hx1 hd ht ht2 hs
      rw [← hs, ← ht2] at hstep
      have hs1 : s < 4294967296 := by omega
      have ht21 : t2 < 4294967296 := by omega
      have hset := hb.out.1.set (i := k) (d := s) (by omega) hs1
      have e1 := splice_set (ds := ds) (o := 0) (d := s) (outs := outs) (by have := hv.out.1; omega)
      rw [hv.out.1, Nat.zero_add] at e1
      rw [e1] at hset
      have HS := Lib.hid (And.intro hstep (And.intro hset (only_set (i := k) hb.out.2 (.int .u32 (s : Int)))))
      clear hx hs ht2 hstep hlen hset e1 hN hfit
      go_wp2_with (go_at_call 62; (with_reducible refine (HA.out _).mono ?_); rintro e w1 ⟨rfl, rfl⟩)
      go_roundw
      case rel => exact ⟨k + 1, t2, outs ++ [s], by omega, by go_num, rfl, ht21, ⟨by rw [List.length_append, hv.out.1]; rfl, isDig_snoc hv.out.2.1 hs1, HS.out.1⟩, ⟨HS.out.2.1, HS.out.2.2⟩⟩
      case measure => simp [intOf]; omega
    · obtain rfl : k = n := by omega
      have h3 := hv.out.2.2
      have h4 : num outs = num (ds.take k) * d + c0 := by
        have hf := HN.out.2.2
        rcases Nat.eq_zero_or_pos t with h | h
        · rw [h, Nat.mul_zero] at h3; omega
        · have : 4294967296 ^ k * 1 ≤ 4294967296 ^ k * t := Nat.mul_le_mul_left _ h
          omega
      have HS := Lib.hid (And.intro hv.out.1 (And.intro hv.out.2.1 (And.intro h4 hb.out)))
      clear h3 h4 hv hb
      go_wp2
      go_end0
      exact ⟨rfl, outs, HS.out.1, HS.out.2.1, HS.out.2.2.1, HS.out.2.2.2.1, HS.out.2.2.2.2⟩
end Go.Proofs.YtkceldnljppflaaDoor.Nat02
