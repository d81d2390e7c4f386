/- What the document's own Less gives back. What the document's own Minus gives back, where the second number is not the greater: the digits of the difference. What the document's own twice and DivMod give back: quotient and rest, bit by bit. -/
import Derived.Test.YtbbemgeinlehmaaGreatDoorNb
import Derived.Test.YtbbemgeinlehmaaGreatDoorRb
namespace Go.Proofs.YtbbemgeinlehmaaGreatDoor.Ref02
open Go.RowKit
set_option linter.unusedVariables false
open Go.Proofs.YtbbemgeinlehmaaGreatDoor.Dig

theorem less_any (va vb : Value) (xs ys : List Nat) (w : World) (hx : Row w va xs) (hy : Row w vb ys) (lx : xs.length ≤ 1000000) (ly : ys.length ≤ 1000000) :
    Calls Tryz.prog 76 #[va, vb] w fun e w' => e = .returned (.bool (lessB xs ys)) ∧ Since w w' := by
  obtain ⟨dx, A, c, rfl, hcx, -⟩ := hx
  obtain ⟨dy, B, c', rfl, hcy, -⟩ := hy
  by_cases hl : xs.length = ys.length
  · have HX := Lib.hid hcx
    have HY := Lib.hid hcy
    have HL := Lib.hid hl
    have HD := Lib.hid (And.intro dx dy)
    clear hcx hcy ly dx dy
    rw [← hl]
    clear hl
    obtain ⟨n, hn⟩ : ∃ n, n = xs.length := ⟨_, rfl⟩
    rw [← hn] at lx ⊢
    have HN := Lib.hid hn
    clear hn
    obtain ⟨R, hR⟩ : ∃ R, R = lessB xs ys := ⟨_, rfl⟩
    rw [← hR]
    have HR := Lib.hid hR
    clear hR
    go_enter Tryz.func76, Tryz.ntmps76
    go_wp2
    go_loopw [5] (fun i wr => ∃ k : Nat, k ≤ n ∧ i = .int .i64 ((k : Int) - 1) ∧ Hid (xs.drop k = ys.drop k) ∧ Since w wr) (fun i _ => (intOf i + 1).toNat)
    case atStart => exact ⟨n, Nat.le_refl _, rfl, (by have h1 := HN.out; have h2 := HL.out; show xs.drop n = ys.drop n; rw [List.drop_of_length_le (by omega), List.drop_of_length_le (by omega)]), Since.refl _⟩
    case round =>
      obtain ⟨k, hk, rfl, heq, hw⟩ := hrel
      rcases k with _ | j
      · go_wp2
        go_ret
        refine ⟨?_, hw⟩
        have : R = false := by
          have h := heq.out
          simp at h
          rw [HR.out, lessB, if_pos HL.out, h]
          simp
        exact ret_bool this.symm
      · have e : ((j + 1 : Nat) : Int) - 1 = (j : Int) := by omega
        rw [e]
        clear e
        have hn := HN.out
        obtain ⟨b, o, rfl, hc1⟩ := HX.out (by omega)
        obtain ⟨b', o', rfl, hc2⟩ := HY.out (by rw [← HL.out]; omega)
        have g1 : wr.cell? ⟨b, o + j, none⟩ = some (.int .u32 ((xs.getD j 0 : Nat) : Int)) := (Below.cell hw (World.block_lt_of_cell? _ _ (hc1 j (by omega)))).trans (hc1 j (by omega))
        have g2 : wr.cell? ⟨b', o' + j, none⟩ = some (.int .u32 ((ys.getD j 0 : Nat) : Int)) := (Below.cell hw (World.block_lt_of_cell? _ _ (hc2 j (by rw [← HL.out]; omega)))).trans (hc2 j (by rw [← HL.out]; omega))
        obtain ⟨x, hx⟩ : ∃ x, x = xs.getD j 0 := ⟨_, rfl⟩
        obtain ⟨y, hy⟩ : ∃ y, y = ys.getD j 0 := ⟨_, rfl⟩
        rw [← hx] at g1
        rw [← hy] at g2
        have HXX := Lib.hid (And.intro hx hy)
        clear hc1 hc2 hx hy hn
        have hj : j < n := by omega
        by_cases hxy : ((x : Int) != (y : Int)) = true
        · by_cases hlt : x < y
          · have this : R = true := by
              rw [HR.out, lessB, if_pos HL.out, decide_eq_true]
              exact less_at HD.out.1 HL.out (j := j) (by have := HN.out; omega) heq.out (by have h1 := HXX.out.1; have h2 := HXX.out.2; omega)
            go_wp2
            go_quiet (fail)
            go_wp2
            go_quiet (fail)
            go_wp2
            go_ret
            exact ⟨ret_bool this.symm, (hw.drewN _).drewN _⟩
          · have this : R = false := by
              rw [HR.out, lessB, if_pos HL.out, decide_eq_false]
              have := less_at HD.out.2 HL.out.symm (j := j) (by have := HN.out; have := HL.out; omega) heq.out.symm (by have h1 := HXX.out.1; have h2 := HXX.out.2; simp at hxy; omega)
              omega
            go_wp2
            go_quiet (fail)
            go_wp2
            go_quiet (fail)
            go_wp2
            go_ret
            exact ⟨ret_bool this.symm, (hw.drewN _).drewN _⟩
        · have hxy' : ((x : Int) != (y : Int)) = false := by simpa using hxy
          clear hxy
          go_wp2
          go_quiet (fail)
          go_wp2
          go_roundw
          case rel =>
            refine ⟨j, by omega, rfl, ?_, hw.drewN _⟩
            have h1 := HXX.out.1
            have h2 := HXX.out.2
            simp at hxy'
            exact drop_more_eq HL.out (by have := HN.out; omega) heq.out (by omega)
          case measure => simp [intOf] <;> omega
  · have hg : ((xs.length : Int) != (ys.length : Int)) = true := by simp; omega
    have HR : lessB xs ys = decide (xs.length < ys.length) := by
      rw [lessB, if_neg hl]
    rw [HR]
    clear hcx hcy HR
    go_enter Tryz.func76, Tryz.ntmps76
    go_wp2
    go_ret
    exact ⟨rfl, Since.refl _⟩
end Go.Proofs.YtbbemgeinlehmaaGreatDoor.Ref02

namespace Go.Proofs.YtbbemgeinlehmaaGreatDoor.Ref02
open Go.RowKit
set_option linter.unusedVariables false
open Go.Proofs.YtbbemgeinlehmaaGreatDoor.Dig

set_option maxRecDepth 100000 in
set_option maxHeartbeats 1000000 in
theorem minus_any (va vb : Value) (xs ys : List Nat) (w : World) (hx : Row w va xs) (hy : Row w vb ys) (lx : xs.length ≤ 100000) (ly : ys.length ≤ xs.length) (hle : num ys ≤ num xs) :
    Calls Tryz.prog 77 #[va, vb] w (RetRow (digs (num xs - num ys)) w) := by
  have HX := Lib.hid hx
  have HY := Lib.hid hy
  have LX := Lib.hid (show xs.length ≤ 1000000 by omega)
  have LY := Lib.hid (show ys.length ≤ 1000000 by omega)
  have LE := Lib.hid (And.intro ly hle)
  clear hle
  obtain ⟨i0, hi, hz0, hz1, hz2⟩ := info_parts info_u32
  obtain ⟨dx, A, cA, rfl, _, -⟩ := hx
  obtain ⟨dy, B, cB, rfl, _, -⟩ := hy
  have HD := Lib.hid (And.intro dx dy)
  clear dx dy
  obtain ⟨m, hm⟩ : ∃ n, n = xs.length := ⟨_, rfl⟩
  obtain ⟨n2, hn2⟩ : ∃ n, n = ys.length := ⟨_, rfl⟩
  rw [← hm] at HX lx ly ⊢
  rw [← hn2] at HY ly ⊢
  have HN := Lib.hid (And.intro hm hn2)
  clear hm hn2 ly
  go_enter Tryz.func77, Tryz.ntmps77
  go_wp2
  go_loopw [5, 6, 7] (fun s cv i wr => ∃ (k c : Nat) (acc : List Nat), k ≤ m ∧ i = .int .i64 k ∧ cv = .int .u64 c ∧ c ≤ 1 ∧ Hid (acc.length = k) ∧ Hid (IsDig acc) ∧ wr.ownsRow w.heap.size 88 1 s k (u32s acc) ∧ Hid (num acc + num (ys.take k) = num (xs.take k) + 4294967296 ^ k * c) ∧ Since w wr) (fun _ _ i _ => m - (intOf i).toNat)
  case atStart => exact ⟨0, 0, [], by omega, rfl, rfl, by omega, rfl, isDig_nil, World.ownsRow_nil _ _ _ _, by simp [Hid, num], Since.refl _⟩
  case round =>
    obtain ⟨k, c, acc, hk, rfl, rfl, hc, hl, hd, hown, hv, hw⟩ := hrel
    by_cases hlt : k < m
    · obtain ⟨x, hx⟩ : ∃ x, x = xs.getD k 0 := ⟨_, rfl⟩
      obtain ⟨y, hy⟩ : ∃ y, y = ys.getD k 0 := ⟨_, rfl⟩
      have hxb : x < 4294967296 := by rw [hx]; exact getD_lt HD.out.1 k
      have hyb : y < 4294967296 := by rw [hy]; exact getD_lt HD.out.2 k
      have HK := Lib.hid (And.intro hx hy)
      have hstep := minus_step hl.out (hx ▸ hxb) (hy ▸ hyb) hc hv.out
      rw [← hx, ← hy] at hstep
      have HS := Lib.hid hstep
      clear hstep
      clear hx hy
      go_wp2_with (first
        | (go_at_call 97; (with_reducible refine (digit_any (.slice A m cA) xs k _ (HX.out.since hw) LX.out).mono ?_); rw [← HK.out.1]; rintro e w' ⟨rfl, rfl⟩)
        | (go_at_call 97; (with_reducible refine (digit_any (.slice B n2 cB) ys k _ (HY.out.since hw) LY.out).mono ?_); rw [← HK.out.2]; rintro e w' ⟨rfl, rfl⟩)
        | (at_builtin; refine wpList_append_own _ rfl _ _ 22 rfl w.heap.size 88 i0 (.int .u32 0) 1 4 Tryz.underlying22 hi hz0 hz1 hz2 rfl (by decide) _ _ _ rfl (hown.alloc _) ⟨wr.heap.size, 0, none⟩ 1 1 [.int .u32 ((4294967296 + (x : Int) - (y : Int) - (c : Int)) % 4294967296)] rfl rfl ?c1 ?c2 ?c3 ?c4 ?c5 ?_))
      case c1 =>
        intro j u hj
        match j, hj with
        | 0, hj => simp at hj; subst hj; simp [Addr.add]
      case c2 => intro u hu; simp at hu; subst hu; rfl
      case c3 => unfold maxLen; omega
      case c4 => omega
      case c5 => have := hw.size; simp; omega
      intro v' w1 hown' hgrow _
      have hs1 : Since w w1 := Below.grown (hw.alloc _) hgrow (by have := hw.size; simp; omega) (fun g hg => (hown.lt g hg).1)
      have ho1 : w1.ownsRow w.heap.size 88 1 v' (k + 1) (u32s (acc ++ [(4294967296 + x - y - c) % 4294967296])) := by
        rw [u32s_append, u32s_one, show (((4294967296 + x - y - c) % 4294967296 : Nat) : Int) = (4294967296 + (x : Int) - (y : Int) - (c : Int)) % 4294967296 by omega]
        exact hown'
      clear hown' hgrow hown
      go_wp2
      go_roundw
      case rel => exact ⟨k + 1, 1 - (4294967296 + x - y - c) / 4294967296, acc ++ [(4294967296 + x - y - c) % 4294967296], by omega, by go_num, by go_num, by omega, by show _ = _; rw [List.length_append, hl.out]; rfl, isDig_snoc hd.out (by omega), ho1, HS.out, hs1⟩
      case measure => simp [intOf]; omega
    · obtain rfl : k = m := by omega
      have hn := HN.out.1
      have hfin : num acc = num xs - num ys := minus_end HD.out.1 hd.out (by rw [hl.out, hn]) LE.out.1 LE.out.2 (by rw [← hn]; exact hv.out)
      have HF := Lib.hid hfin
      have hro := Row.own hd.out hown
      have HR := Lib.hid hro
      clear hfin hro hown hn
      go_wp2_with (go_at_call 98; (with_reducible refine (trim_any _ acc _ HR.out (by rw [hl.out]; omega)).mono ?_); rintro e w' ⟨v, rfl, hr, hs⟩)
      go_ret
      exact ⟨_, rfl, by rw [← HF.out]; assumption, hw.trans ‹_›⟩
end Go.Proofs.YtbbemgeinlehmaaGreatDoor.Ref02

namespace Go.Proofs.YtbbemgeinlehmaaGreatDoor.Ref02
open Go.RowKit
set_option linter.unusedVariables false
open Go.Proofs.YtbbemgeinlehmaaGreatDoor.Dig

theorem twice_any (va : Value) (xs : List Nat) (b : Nat) (w : World) (hx : Row w va xs) (lx : xs.length ≤ 10000) (hb : b < 2) :
    Calls Tryz.prog 101 #[va, .int .u64 (b : Int)] w (RetRow (digs (num xs + num xs + b)) w) := by
  have HX := Lib.hid hx
  have LX := Lib.hid lx
  have hl : (digs (num xs + num xs)).length ≤ 10001 := by
    refine Nat.le_trans (digs_len_le (k := xs.length + 1) ?_) (by omega)
    have := num_lt hx.dig
    rw [Nat.pow_succ]; omega
  have HL := Lib.hid hl
  have hl2 : (digs b).length ≤ 10000 := Nat.le_trans (digs_len_le (k := 1) (by omega)) (by omega)
  have HL2 := Lib.hid hl2
  clear hx lx hl hl2
  go_enter Tryz.func101, Tryz.ntmps101
  go_wp2_with (first
    | (go_at_call 75; (with_reducible refine (plus_any va va xs xs _ HX.out HX.out (by have := LX.out; omega) (by have := LX.out; omega)).mono ?_); rintro e w1 ⟨v1, rfl, hr1, hs1⟩)
    | (go_at_call 83; (with_reducible refine (of_any b _ (by omega)).mono ?_); rintro e w2 ⟨v2, rfl, hr2, hs2⟩)
    | (go_at_call 75; (with_reducible refine (plus_any v1 v2 (digs (num xs + num xs)) (digs b) _ (hr1.since hs2) hr2 (by have := HL.out; omega) (by have := HL2.out; omega)).mono ?_); rw [num_digs, num_digs]; rintro e w3 ⟨v3, rfl, hr3, hs3⟩))
  go_ret
  exact ⟨_, rfl, ‹Row _ v3 _›, (Since.trans ‹Since w _› ‹Since w1 _›).trans ‹_›⟩

theorem twice_zero (va : Value) (xs : List Nat) (w : World) (hx : Row w va xs) (lx : xs.length ≤ 10000) :
    Calls Tryz.prog 101 #[va, .int .u64 0] w (RetRow (digs (num xs + num xs)) w) := twice_any va xs 0 w hx lx (by omega)
theorem twice_one (va : Value) (xs : List Nat) (w : World) (hx : Row w va xs) (lx : xs.length ≤ 10000) :
    Calls Tryz.prog 101 #[va, .int .u64 1] w (RetRow (digs (num xs + num xs + 1)) w) := twice_any va xs 1 w hx lx (by omega)
/-- a bit of the number is one of a digit -/
theorem bit_at {ds : List Nat} {j : Nat} (hd : IsDig ds) (h : j / 32 < ds.length) : num ds / 2 ^ j % 2 = ds.getD (j / 32) 0 / 2 ^ (j % 32) % 2 := by
  rw [num_at h]
  have h1 := num_take_lt hd (j := j / 32) (by omega)
  have hx := getD_lt hd (j / 32)
  generalize ds.getD (j / 32) 0 = x at *
  generalize num (ds.take (j / 32)) = t at *
  generalize num (ds.drop (j / 32 + 1)) = r at *
  have e1 : (2 : Nat) ^ j = 4294967296 ^ (j / 32) * 2 ^ (j % 32) := by
    have : (4294967296 : Nat) = 2 ^ 32 := by decide
    rw [this, ← Nat.pow_mul, ← Nat.pow_add, Nat.div_add_mod]
  rw [e1, ← Nat.div_div_eq_div_mul]
  have e2 : (t + 4294967296 ^ (j / 32) * (x + 4294967296 * r)) / 4294967296 ^ (j / 32) = x + 4294967296 * r := by
    rw [Nat.add_mul_div_left _ _ (Nat.pow_pos (by omega)), Nat.div_eq_of_lt h1, Nat.zero_add]
  rw [e2]
  have hs : j % 32 < 32 := Nat.mod_lt _ (by omega)
  generalize j % 32 = s at *
  have e3 : 4294967296 * r = 2 ^ s * (2 ^ (32 - s) * r) := by
    rw [← Nat.mul_assoc, ← Nat.pow_add, show s + (32 - s) = 32 by omega]
  rw [e3, Nat.add_mul_div_left _ _ (Nat.pow_pos (by omega))]
  have e4 : 2 ^ (32 - s) * r = 2 * (2 ^ (31 - s) * r) := by
    rw [← Nat.mul_assoc, show 32 - s = (31 - s) + 1 by omega, Nat.pow_succ, Nat.mul_comm (2 ^ (31 - s)) 2]
  rw [e4, Nat.add_mul_mod_self_left]
theorem half_bit (N j : Nat) : N / 2 ^ j = 2 * (N / 2 ^ (j + 1)) + N / 2 ^ j % 2 := by
  rw [Nat.pow_succ, ← Nat.div_div_eq_div_mul]; omega
theorem div_step {M D b : Nat} (hD : 0 < D) (hb : b < 2) :
    ((M % D + M % D + b < D → (2 * M + b) / D = M / D + M / D ∧ (2 * M + b) % D = M % D + M % D + b) ∧
    (D ≤ M % D + M % D + b → (2 * M + b) / D = M / D + M / D + 1 ∧ (2 * M + b) % D = M % D + M % D + b - D)) := by
  have h := Nat.div_add_mod M D
  have hr := Nat.mod_lt M hD
  generalize M / D = q at *
  generalize M % D = r at *
  have e : 2 * M + b = D * (q + q) + (r + r + b) := by rw [Nat.mul_add]; omega
  refine ⟨fun hlt => ?_, fun hge => ?_⟩
  · rw [e]
    exact ⟨by rw [Nat.mul_add_div hD, Nat.div_eq_of_lt hlt, Nat.add_zero], by rw [Nat.mul_add_mod, Nat.mod_eq_of_lt hlt]⟩
  · have e2 : 2 * M + b = D * (q + q + 1) + (r + r + b - D) := by rw [e, Nat.mul_add D (q + q) 1]; omega
    rw [e2]
    exact ⟨by rw [Nat.mul_add_div hD, Nat.div_eq_of_lt (by omega), Nat.add_zero], by rw [Nat.mul_add_mod, Nat.mod_eq_of_lt (by omega)]⟩
theorem bit_int {x s bt : Nat} (h : bt = x / 2 ^ s % 2) : ((x : Int) / 2 ^ s).tmod 2 = (bt : Int) := by
  have e : ((x : Int) / 2 ^ s) = ((x / 2 ^ s : Nat) : Int) := by simp
  rw [e]
  generalize x / 2 ^ s = n at *
  rw [Int.tmod_eq_emod_of_nonneg (by omega), h]
  omega
theorem div_start {xs : List Nat} (hd : IsDig xs) : num xs / 2 ^ (32 * xs.length) = 0 := by
  apply Nat.div_eq_of_lt
  have h := num_lt hd
  have : (4294967296 : Nat) = 2 ^ 32 := by decide
  rw [this, ← Nat.pow_mul] at h
  exact h

set_option maxRecDepth 100000 in
set_option maxHeartbeats 2000000 in
theorem divmod_good (va vb : Value) (xs ys : List Nat) (w : World) (hx : Row w va xs) (hy : Row w vb ys) (lx : xs.length ≤ 10000) (ly : ys.length ≤ 10000)
    (r1 : rightB xs = true) (r2 : rightB ys = true) (h0 : ys.length ≠ 0) :
    Calls Tryz.prog 81 #[va, vb] w fun e w' => ∃ v1 v2, e = .returned (.tuple #[v1, v2, .int .i64 0]) ∧ Row w' v1 (digs (num xs / num ys)) ∧ Row w' v2 (digs (num xs % num ys)) ∧ Since w w' := by
  have HX := Lib.hid hx
  have HY := Lib.hid hy
  have LX := Lib.hid (And.intro lx ly)
  have HN := Lib.hid (And.intro (right_norm r1).2 (right_norm r2).2)
  have HP := Lib.hid (num_pos (right_norm r2).2 h0)
  obtain ⟨dx, A, cA, rfl, hcx, -⟩ := hx
  obtain ⟨dy, B, cB, rfl, _, -⟩ := hy
  have HC := Lib.hid hcx
  have HD := Lib.hid (And.intro dx dy)
  have hz : ((ys.length : Int) == 0) = false := by rw [beq_eq_false_iff_ne]; omega
  clear hcx dx dy ly
  go_enter Tryz.func81, Tryz.ntmps81
  go_wp2_with (first
    | (go_at_call 86; (with_reducible refine (right_any (.slice A xs.length cA) xs _ HX.out (by have := LX.out; omega)).mono ?_); rintro e w1 ⟨rfl, rfl⟩)
    | (go_at_call 86; (with_reducible refine (right_any (.slice B ys.length cB) ys _ HY.out (by have := LX.out; omega)).mono ?_); rintro e w1 ⟨rfl, rfl⟩))
  go_loopw [7, 8, 9] (fun q r i wr => ∃ k : Nat, k ≤ 32 * xs.length ∧ i = .int .i64 ((k : Int) - 1) ∧ Row wr q (digs (num xs / 2 ^ k / num ys)) ∧ Row wr r (digs (num xs / 2 ^ k % num ys)) ∧ Since w wr) (fun _ _ i _ => (intOf i + 1).toNat)
  case atStart => exact ⟨32 * xs.length, Nat.le_refl _, by go_num, by rw [div_start HD.out.1, Nat.zero_div]; exact Row.nil _, by rw [div_start HD.out.1, Nat.zero_mod]; exact Row.nil _, Since.refl _⟩
  case round =>
    obtain ⟨k, hk, rfl, hq, hr, hw⟩ := hrel
    rcases k with _ | j
    · rw [Nat.pow_zero, Nat.div_one] at hq hr
      have H1 := Lib.hid (And.intro hq hr)
      clear hq hr
      go_wp2
      go_ret3
      exact ⟨_, _, rfl, H1.out.1, H1.out.2, hw⟩
    · have e : ((j + 1 : Nat) : Int) - 1 = (j : Int) := by omega
      rw [e]
      clear e
      have hj : j / 32 < xs.length := by omega
      obtain ⟨b, o, rfl, hcc⟩ := HC.out (by omega)
      have hcell := (Below.cell hw (World.block_lt_of_cell? _ _ (hcc (j / 32) hj))).trans (hcc (j / 32) hj)
      have hbit := bit_at HD.out.1 hj
      have hhalf := half_bit (num xs) j
      have hxb := getD_lt HD.out.1 (j / 32)
      obtain ⟨x, hx⟩ : ∃ x, x = xs.getD (j / 32) 0 := ⟨_, rfl⟩
      rw [← hx] at hcell hbit hxb
      clear hcc hx
      obtain ⟨bt, hbt⟩ : ∃ bt, bt = x / 2 ^ (j % 32) % 2 := ⟨_, rfl⟩
      have hb2 : bt < 2 := by rw [hbt]; exact Nat.mod_lt _ (by omega)
      have hsp : ((x : Int) / 2 ^ (j % 32)).tmod 2 = (bt : Int) := bit_int hbt
      rw [← hbt] at hbit
      rw [hbit] at hhalf
      have hst := div_step (M := num xs / 2 ^ (j + 1)) (b := bt) HP.out hb2
      rw [← hhalf] at hst
      have lr : (digs (num xs / 2 ^ (j + 1) % num ys)).length ≤ ys.length := Nat.le_trans (digs_len_mono (Nat.le_of_lt (Nat.mod_lt _ HP.out))) (digs_len_num HD.out.2)
      have lq : (digs (num xs / 2 ^ (j + 1) / num ys)).length ≤ xs.length := Nat.le_trans (digs_len_mono (Nat.le_trans (Nat.div_le_self _ _) (Nat.div_le_self _ _))) (digs_len_num HD.out.1)
      obtain ⟨R, hR⟩ : ∃ R, R = num xs / 2 ^ (j + 1) % num ys := ⟨_, rfl⟩
      obtain ⟨Q, hQ⟩ : ∃ Q, Q = num xs / 2 ^ (j + 1) / num ys := ⟨_, rfl⟩
      rw [← hR, ← hQ] at hst
      rw [← hR] at lr hr
      rw [← hQ] at lq hq
      have hle : (digs (R + R + bt)).length ≤ 10001 := by
        refine Nat.le_trans (digs_len_le (k := ys.length + 1) ?_) (by have := LX.out; omega)
        have h1 := num_lt HD.out.2
        have h2 : R < num ys := by rw [hR]; exact Nat.mod_lt _ HP.out
        rw [Nat.pow_succ]; omega
      have LL := Lib.hid (And.intro hle (And.intro lr lq))
      have HRQ := Lib.hid (And.intro hr hq)
      have hel := lessB_norm (isDig_digs (R + R + bt)) HD.out.2 (norm_digs _) HN.out.2
      rw [num_digs] at hel
      clear hR hQ hle lr lq hr hq hbt hbit hhalf
      by_cases hc : R + R + bt < num ys
      · obtain ⟨hs1, hs2⟩ := hst.1 hc
        rw [decide_eq_true hc] at hel
        have HE := Lib.hid hel
        have HS := Lib.hid (And.intro hs1 hs2)
        clear hs1 hs2 hst hel hc
        go_wp2_with (first
          | (go_at_call 101; (with_reducible refine (twice_any _ (digs R) bt _ HRQ.out.1 (by have := LL.out; have := LX.out; omega) hb2).mono ?_); rw [num_digs]; rintro e w1 ⟨v1, rfl, hv1, hw1⟩)
          | (go_at_call 76; (with_reducible refine (less_any v1 (.slice B ys.length cB) (digs (R + R + bt)) ys _ hv1 (HY.out.since (hw.trans hw1)) (by have := LL.out; omega) (by have := LX.out; omega)).mono ?_); rw [HE.out]; rintro e w2 ⟨rfl, hw2⟩)
          | (go_at_call 101; (with_reducible refine (twice_zero _ (digs Q) _ (HRQ.out.2.since (hw1.trans hw2)) (by have := LL.out; have := LX.out; omega)).mono ?_); rw [num_digs]; rintro e w3 ⟨v3, rfl, hv3, hw3⟩))
        go_roundw
        case rel => exact ⟨j, by omega, rfl, by rw [HS.out.1]; exact ‹Row _ v3 _›, by rw [HS.out.2]; exact (‹Row w1 v1 _›.since ‹Since w1 _›).since ‹_›, ((hw.trans ‹Since wr w1›).trans ‹Since w1 _›).trans ‹_›⟩
        case measure => simp [intOf] <;> omega
      · obtain ⟨hs1, hs2⟩ := hst.2 (by omega)
        rw [decide_eq_false hc] at hel
        have HE := Lib.hid hel
        have HS := Lib.hid (And.intro hs1 hs2)
        have hln := norm_len_le (isDig_digs (R + R + bt)) HN.out.2 (by rw [num_digs]; omega)
        have HG := Lib.hid (And.intro hln (show num ys ≤ num (digs (R + R + bt)) by rw [num_digs]; omega))
        clear hs1 hs2 hst hel hc hln
        go_wp2_with (first
          | (go_at_call 101; (with_reducible refine (twice_any _ (digs R) bt _ HRQ.out.1 (by have := LL.out; have := LX.out; omega) hb2).mono ?_); rw [num_digs]; rintro e w1 ⟨v1, rfl, hv1, hw1⟩)
          | (go_at_call 76; (with_reducible refine (less_any v1 (.slice B ys.length cB) (digs (R + R + bt)) ys _ hv1 (HY.out.since (hw.trans hw1)) (by have := LL.out; omega) (by have := LX.out; omega)).mono ?_); rw [HE.out]; rintro e w2 ⟨rfl, hw2⟩)
          | (go_at_call 77; (with_reducible refine (minus_any v1 (.slice B ys.length cB) (digs (R + R + bt)) ys _ (hv1.since hw2) (HY.out.since ((hw.trans hw1).trans hw2)) (by have := LL.out; omega) HG.out.1 HG.out.2).mono ?_); rw [num_digs]; rintro e w4 ⟨v4, rfl, hv4, hw4⟩)
          | (go_at_call 101; (with_reducible refine (twice_one _ (digs Q) _ (HRQ.out.2.since ((hw1.trans hw2).trans hw4)) (by have := LL.out; have := LX.out; omega)).mono ?_); rw [num_digs]; rintro e w3 ⟨v3, rfl, hv3, hw3⟩))
        go_roundw
        case rel => exact ⟨j, by omega, rfl, by rw [HS.out.1]; exact ‹Row _ v3 _›, by rw [HS.out.2]; exact ‹Row _ v4 _›.since ‹_›, (((hw.trans ‹Since wr w1›).trans ‹Since w1 _›).trans ‹Since _ w4›).trans ‹_›⟩
        case measure => simp [intOf] <;> omega

set_option maxRecDepth 100000 in
set_option maxHeartbeats 1000000 in
theorem divmod_any (va vb : Value) (xs ys : List Nat) (w : World) (hx : Row w va xs) (hy : Row w vb ys) (lx : xs.length ≤ 10000) (ly : ys.length ≤ 10000) :
    Calls Tryz.prog 81 #[va, vb] w fun e w' => ∃ v1 v2, e = .returned (.tuple #[v1, v2, .int .i64 (divE xs ys)]) ∧ Row w' v1 (divQ xs ys) ∧ Row w' v2 (divR xs ys) ∧ Since w w' := by
  by_cases h : (rightB xs = true ∧ rightB ys = true) ∧ ys.length ≠ 0
  · have e1 : divQ xs ys = digs (num xs / num ys) := by unfold divQ; rw [if_pos h]
    have e2 : divR xs ys = digs (num xs % num ys) := by unfold divR; rw [if_pos h]
    have e3 : divE xs ys = 0 := by unfold divE; rw [if_pos h]
    rw [e1, e2, e3]
    exact divmod_good va vb xs ys w hx hy lx ly h.1.1 h.1.2 h.2
  · have e1 : divQ xs ys = [] := by unfold divQ; rw [if_neg h]
    have e2 : divR xs ys = [] := by unfold divR; rw [if_neg h]
    have e3 : divE xs ys = 2 := by unfold divE; rw [if_neg h]
    rw [e1, e2, e3]
    clear e1 e2 e3
    have HX := Lib.hid hx
    have HY := Lib.hid hy
    have LX := Lib.hid (And.intro lx ly)
    obtain ⟨dy, B, cB, rfl, _, -⟩ := hy
    clear hx lx dy
    by_cases r1 : rightB xs = true
    · by_cases r2 : rightB ys = true
      · have h0 : ys.length = 0 := by
          by_cases h0 : ys.length = 0
          · exact h0
          · exact absurd ⟨⟨r1, r2⟩, h0⟩ h
        have hz : ((ys.length : Int) == 0) = true := by rw [beq_iff_eq]; omega
        clear h h0
        go_enter Tryz.func81, Tryz.ntmps81
        go_wp2_with (first
          | (go_at_call 86; (with_reducible refine (right_any va xs _ HX.out (by have := LX.out; omega)).mono ?_); rintro e w1 ⟨rfl, rfl⟩)
          | (go_at_call 86; (with_reducible refine (right_any (.slice B ys.length cB) ys _ HY.out (by have := LX.out; omega)).mono ?_); rintro e w1 ⟨rfl, rfl⟩))
        go_ret3
        exact ⟨_, _, rfl, Row.nil _, Row.nil _, Since.refl _⟩
      · have r2' : rightB ys = false := by simpa using r2
        clear h r2
        go_enter Tryz.func81, Tryz.ntmps81
        go_wp2_with (first
          | (go_at_call 86; (with_reducible refine (right_any va xs _ HX.out (by have := LX.out; omega)).mono ?_); rintro e w1 ⟨rfl, rfl⟩)
          | (go_at_call 86; (with_reducible refine (right_any (.slice B ys.length cB) ys _ HY.out (by have := LX.out; omega)).mono ?_); rintro e w1 ⟨rfl, rfl⟩))
        go_ret3
        exact ⟨_, _, rfl, Row.nil _, Row.nil _, Since.refl _⟩
    · have r1' : rightB xs = false := by simpa using r1
      clear h r1
      go_enter Tryz.func81, Tryz.ntmps81
      go_wp2_with (first
        | (go_at_call 86; (with_reducible refine (right_any va xs _ HX.out (by have := LX.out; omega)).mono ?_); rintro e w1 ⟨rfl, rfl⟩)
        | (go_at_call 86; (with_reducible refine (right_any (.slice B ys.length cB) ys _ HY.out (by have := LX.out; omega)).mono ?_); rintro e w1 ⟨rfl, rfl⟩))
      go_ret3
      exact ⟨_, _, rfl, Row.nil _, Row.nil _, Since.refl _⟩
end Go.Proofs.YtbbemgeinlehmaaGreatDoor.Ref02
