/- What significant, Right, compare, Cmp, value and Uint of package nat give back. -/
import Derived.Test.YtmnankcllblgjaaN2E
namespace Go.Proofs.Ytmnankcllblgjaa.Nat02
open Go.RowKit
set_option linter.unusedVariables false
open Go.Proofs.Ytmnankcllblgjaa.Dig

set_option maxHeartbeats 800000 in
theorem significant_any (v : Value) (ds : List Nat) (w : World) (h : Row w v ds) (hl : ds.length ≤ 1000000) :
    Calls Try.prog 64 #[v] w fun e w' => e = .returned (.int .i64 ((sig ds : Nat) : Int)) ∧ w = w' := by
  obtain ⟨hd, A, c, rfl, hc, -⟩ := h
  have HC := Lib.hid hc
  have HD := Lib.hid hd
  obtain ⟨n, hn⟩ : ∃ n, n = ds.length := ⟨_, rfl⟩
  obtain ⟨S, hS⟩ : ∃ n, n = sig ds := ⟨_, rfl⟩
  rw [← hn] at hl ⊢
  rw [← hS]
  have HN := Lib.hid (And.intro hn hS)
  clear hc hd hn hS
  go_enter Try.func64, Try.ntmps64
  go_wp2
  go_loop [3] (fun i => ∃ k : Nat, k ≤ n ∧ i = .int .i64 k ∧ Hid (∀ i, k ≤ i → i < ds.length → ds.getD i 0 = 0)) (fun i => (intOf i).toNat)
  case atStart => exact ⟨n, Nat.le_refl _, rfl, fun i h1 h2 => by have := HN.out.1; omega⟩
  case round =>
    obtain ⟨k, hk, rfl, hz⟩ := hrel
    rcases k with _ | j
    · have e : S = 0 := by rw [HN.out.2]; exact (sig_of HD.out (k := 0) (by omega) hz.out (.inl rfl)).1
      subst e
      go_wp2
      go_ret
      exact ⟨rfl, rfl⟩
    · have hj : j < ds.length := by have := HN.out.1; omega
      obtain ⟨b, o, rfl, hcc⟩ := HC.out (by omega)
      have hcell := hcc j hj
      obtain ⟨d, hdd⟩ : ∃ d, d = ds.getD j 0 := ⟨_, rfl⟩
      rw [← hdd] at hcell
      have HDD := Lib.hid hdd
      clear hcc hdd hj
      by_cases hdz : d = 0
      · subst hdz
        go_wp2
        go_round
        case rel => exact ⟨j, by omega, rfl, fun i h1 h2 => by
          by_cases e : i = j
          · subst e; exact HDD.out.symm
          · exact hz.out i (by omega) h2⟩
        case measure => simp [intOf]
      · have hdb : ((d : Int) == 0) = false := by simp; omega
        have e : S = j + 1 := by
          rw [HN.out.2]
          exact (sig_of HD.out (k := j + 1) (by have := HN.out.1; omega) hz.out (.inr (by rw [Nat.add_sub_cancel, ← HDD.out]; exact hdz))).1
        subst e
        clear hdz
        go_wp2
        go_ret
        exact ⟨rfl, rfl⟩

theorem right_yes (v : Value) (ds : List Nat) (w : World) (h : Row w v ds) (hl : ds.length ≤ 10000) :
    Calls Try.prog 41 #[v] w fun e w' => e = .returned (.bool (rightB ds)) ∧ w = w' := by
  have H := Lib.hid h
  rw [right_sig h.dig]
  obtain ⟨hd, A, c, rfl, hc, -⟩ := h
  clear hc
  by_cases h1 : ds.length ≤ 256
  · have e : (decide (ds.length ≤ 256) && decide (sig ds = ds.length)) = ((sig ds : Int) == (ds.length : Int)) := by
      rw [decide_eq_true h1, Bool.true_and, Bool.eq_iff_iff]; simp only [decide_eq_true_eq, beq_iff_eq]; omega
    rw [e]
    clear e hd
    go_enter Try.func41, Try.ntmps41
    go_wp2_with (go_at_call 64; (with_reducible refine (significant_any (.slice A ds.length c) ds _ H.out (by omega)).mono ?_); rintro e w1 ⟨rfl, rfl⟩)
    go_ret
    exact ⟨rfl, rfl⟩
  · have e : (decide (ds.length ≤ 256) && decide (sig ds = ds.length)) = false := by
      rw [decide_eq_false h1, Bool.false_and]
    rw [e]
    have h2 : 256 < ds.length := by omega
    clear e hd h1
    go_enter Try.func41, Try.ntmps41
    go_wp2_with (go_at_call 64; (with_reducible refine (significant_any (.slice A ds.length c) ds _ H.out (by omega)).mono ?_); rintro e w1 ⟨rfl, rfl⟩)
    go_ret
    exact ⟨rfl, rfl⟩
theorem right_any (v : Value) (ds : List Nat) (w : World) (h : Row w v ds) (hl : ds.length ≤ 10000) :
    Calls Try.prog 41 #[v] w fun e w' => e = .returned (.bool (rightB ds)) ∧ Since w w' :=
  (right_yes v ds w h hl).mono fun e w' ⟨he, hw⟩ => ⟨he, hw ▸ Since.refl w⟩

/-- of lists of one length that are one from a place on, the digit before it tells -/
theorem cmpL_at {xs ys : List Nat} (hx : IsDig xs) (hy : IsDig ys) (hl : xs.length = ys.length) {j : Nat} (h : j < xs.length) (he : xs.drop (j + 1) = ys.drop (j + 1)) :
    (xs.getD j 0 < ys.getD j 0 → cmpL xs ys = -1) ∧ (ys.getD j 0 < xs.getD j 0 → cmpL xs ys = 1) := by
  refine ⟨fun hlt => ?_, fun hlt => ?_⟩
  · have := less_at hx hl h he hlt
    unfold cmpL; rw [if_neg (by omega), if_neg (by omega), if_pos this]
  · have := less_at hy hl.symm (by omega) he.symm hlt
    unfold cmpL; rw [if_neg (by omega), if_neg (by omega), if_neg (by omega), if_pos this]
theorem cmpL_self {xs ys : List Nat} (h : xs = ys) : cmpL xs ys = 0 := by
  subst h; unfold cmpL; simp
/-- what is compared, and the world has drawn at most -/
def RetCmp (c : Int) (w : World) (e : Ending) (w' : World) : Prop := e = .returned (.int .i64 c) ∧ ∃ n, w' = w.drewN n

set_option maxRecDepth 100000 in
set_option maxHeartbeats 800000 in
theorem compare_any (va vb : Value) (xs ys : List Nat) (w : World) (hx : Row w va xs) (hy : Row w vb ys) (lx : xs.length ≤ 1000000) (ly : ys.length ≤ 1000000) :
    Calls Try.prog 62 #[va, vb] w (RetCmp (cmpL xs ys) w) := by
  obtain ⟨C, hC⟩ : ∃ c, c = cmpL xs ys := ⟨_, rfl⟩
  rw [← hC]
  obtain ⟨dx, A, cA, rfl, hcx, -⟩ := hx
  obtain ⟨dy, B, cB, rfl, hcy, -⟩ := hy
  have HC := Lib.hid (And.intro hcx hcy)
  have HD := Lib.hid (And.intro dx dy)
  clear hcx hcy dx dy
  by_cases h1 : xs.length < ys.length
  · have e : C = -1 := by rw [hC, cmpL, if_pos h1]
    subst e
    clear hC
    go_enter Try.func62, Try.ntmps62
    go_wp2
    go_ret
    exact ⟨rfl, 0, rfl⟩
  · by_cases h2 : ys.length < xs.length
    · have e : C = 1 := by rw [hC, cmpL, if_neg h1, if_pos h2]
      subst e
      clear hC
      have h1' : ys.length ≤ xs.length := by omega
      clear h1
      go_enter Try.func62, Try.ntmps62
      go_wp2
      go_ret
      exact ⟨rfl, 0, rfl⟩
    · have hl : xs.length = ys.length := by omega
      have HS := Lib.hid (And.intro hC hl)
      obtain ⟨n, hn⟩ : ∃ n, n = xs.length := ⟨_, rfl⟩
      have hn2 : n = ys.length := by omega
      rw [← hn] at lx h1 h2 ⊢
      rw [← hn2] at h1 h2 ⊢
      have HN := Lib.hid (And.intro hn hn2)
      clear hC hl hn hn2 ly h1 h2
      go_enter Try.func62, Try.ntmps62
      go_wp2
      go_loopw [5] (fun i wr => ∃ k : Nat, k ≤ n ∧ i = .int .i64 ((k : Int) - 1) ∧ Hid (xs.drop k = ys.drop k) ∧ ∃ m, wr = w.drewN m) (fun i _ => (intOf i + 1).toNat)
      case atStart => exact ⟨n, Nat.le_refl _, by go_num, by show _ = _; rw [List.drop_of_length_le (by have := HN.out.1; omega), List.drop_of_length_le (by have := HN.out.2; omega)], 0, rfl⟩
      case round =>
        obtain ⟨k, hk, rfl, he, m, rfl⟩ := hrel
        rcases k with _ | j
        · have e : C = 0 := by
            rw [HS.out.1]
            have := he.out
            rw [List.drop_zero, List.drop_zero] at this
            exact cmpL_self this
          subst e
          go_wp2
          go_ret
          exact ⟨rfl, m, rfl⟩
        · have e : ((j + 1 : Nat) : Int) - 1 = (j : Int) := by omega
          rw [e]
          clear e
          have hj : j < n := by omega
          obtain ⟨b, o, rfl, hcc⟩ := HC.out.1 (by have := HN.out.1; omega)
          obtain ⟨b2, o2, rfl, hcc2⟩ := HC.out.2 (by have := HN.out.2; omega)
          have hcell := hcc j (by have := HN.out.1; omega)
          have hcell2 := hcc2 j (by have := HN.out.2; omega)
          have hat := cmpL_at HD.out.1 HD.out.2 HS.out.2 (by have := HN.out.1; omega) he.out
          have hmore := drop_more_eq (xs := xs) (ys := ys) HS.out.2 (k := j) (by have := HN.out.1; omega) he.out
          rw [← HS.out.1] at hat
          obtain ⟨x, hx⟩ : ∃ d, d = xs.getD j 0 := ⟨_, rfl⟩
          obtain ⟨y, hy⟩ : ∃ d, d = ys.getD j 0 := ⟨_, rfl⟩
          rw [← hx, ← hy] at hat hmore
          rw [← hx] at hcell
          rw [← hy] at hcell2
          have HM := Lib.hid hmore
          have i1 : (0 : Int) ≤ (j : Int) := by omega
          have i2 : (j : Int) < (n : Int) := by omega
          clear hcc hcc2 hx hy hmore
          rcases Nat.lt_trichotomy x y with h | h | h
          · have e : C = -1 := hat.1 h
            subst e
            clear hat
            go_wp2
            go_quiet (fail)
            go_wp2
            go_ret
            exact ⟨rfl, _, by go_simp; rfl⟩
          · subst h
            clear hat
            go_wp2
            go_quiet (fail)
            go_wp2
            go_quiet (fail)
            go_wp2
            go_roundw
            case rel => exact ⟨j, by omega, rfl, HM.out trivial, _, by go_simp; rfl⟩
            case measure => simp [intOf] <;> omega
          · have e : C = 1 := hat.2 h
            subst e
            have h' : ¬ x < y := by omega
            have h'' : y ≤ x := by omega
            clear hat
            go_wp2
            go_quiet (fail)
            go_wp2
            go_quiet (fail)
            go_wp2
            go_ret
            exact ⟨rfl, _, by go_simp; rfl⟩

theorem cmp_any (va vb : Value) (xs ys : List Nat) (w : World) (hx : Row w va xs) (hy : Row w vb ys) (lx : xs.length ≤ 10000) (ly : ys.length ≤ 10000) :
    Calls Try.prog 39 #[va, vb] w fun e w' => e = .returned (.tuple #[.int .i64 (cmpD xs ys).1, .int .i64 (cmpD xs ys).2]) ∧ Since w w' := by
  have H := Lib.hid (And.intro hx hy)
  rw [cmpD_cmpL hx.dig hy.dig]
  clear hx hy
  by_cases r1 : rightB xs = true
  · by_cases r2 : rightB ys = true
    · rw [if_pos ⟨r1, r2⟩]
      go_enter Try.func39, Try.ntmps39
      go_wp2_with (first
        | (go_at_call 41; (with_reducible refine (right_yes va xs _ H.out.1 lx).mono ?_); rintro e w1 ⟨rfl, rfl⟩)
        | (go_at_call 41; (with_reducible refine (right_yes vb ys _ H.out.2 ly).mono ?_); rintro e w1 ⟨rfl, rfl⟩)
        | (go_at_call 62; (with_reducible refine (compare_any va vb xs ys _ H.out.1 H.out.2 (by omega) (by omega)).mono ?_); rintro e w1 ⟨rfl, n, rfl⟩))
      go_ret2
      exact ⟨rfl, (Since.refl _).drewN _⟩
    · have r2' : rightB ys = false := by simpa using r2
      rw [if_neg (fun h => r2 h.2)]
      clear r2
      go_enter Try.func39, Try.ntmps39
      go_wp2_with (first
        | (go_at_call 41; (with_reducible refine (right_yes va xs _ H.out.1 lx).mono ?_); rintro e w1 ⟨rfl, rfl⟩)
        | (go_at_call 41; (with_reducible refine (right_yes vb ys _ H.out.2 ly).mono ?_); rintro e w1 ⟨rfl, rfl⟩))
      go_ret2
      exact ⟨rfl, Since.refl _⟩
  · have r1' : rightB xs = false := by simpa using r1
    rw [if_neg (fun h => r1 h.1)]
    clear r1
    go_enter Try.func39, Try.ntmps39
    go_wp2_with (first
      | (go_at_call 41; (with_reducible refine (right_yes va xs _ H.out.1 lx).mono ?_); rintro e w1 ⟨rfl, rfl⟩))
    go_ret2
    exact ⟨rfl, Since.refl _⟩

theorem join_digit {u x k : Nat} (hk : k ≤ 1) (hu : u < 4294967296 ^ k) (hx : x < 4294967296) : bits .or .u64 (u : Int) ((x : Int) * 4294967296 ^ k) = ((u + 4294967296 ^ k * x : Nat) : Int) := by
  rcases (show k = 0 ∨ k = 1 by omega) with rfl | rfl
  · have e : u = 0 := by simpa using hu
    subst e
    have := u64_or_nat 0 x (by omega) (by omega)
    simpa using this
  · have := u64_or_nat u (4294967296 * x) (by omega) (by omega)
    rw [Nat.or_comm, nat_join 32 _ _ (by omega) (by omega)] at this
    rw [show (x : Int) * 4294967296 ^ 1 = ((4294967296 * x : Nat) : Int) by omega, this]
    simp; omega
set_option maxRecDepth 100000 in
theorem value_any (v : Value) (ds : List Nat) (w : World) (h : Row w v ds) (hl : ds.length ≤ 2) :
    Calls Try.prog 61 #[v] w fun e w' => e = .returned (.int .u64 ((num ds : Nat) : Int)) ∧ w = w' := by
  obtain ⟨hd, A, c, rfl, hc, -⟩ := h
  have HC := Lib.hid hc
  have HD := Lib.hid hd
  obtain ⟨n, hn⟩ : ∃ n, n = ds.length := ⟨_, rfl⟩
  rw [← hn] at hl ⊢
  have HN := Lib.hid hn
  clear hc hd hn
  go_enter Try.func61, Try.ntmps61
  go_wp2
  go_loop [3, 7] (fun u i => ∃ (k s : Nat), k ≤ n ∧ i = .int .i64 k ∧ u = .int .u64 s ∧ s < 18446744073709551616 ∧ Hid (s = num (ds.take k))) (fun _ i => n - (intOf i).toNat)
  case atStart => exact ⟨0, 0, by omega, rfl, rfl, by omega, rfl⟩
  case round =>
    obtain ⟨k, s, hk, rfl, rfl, hs, hv⟩ := hrel
    by_cases hlt : k < n
    · have hj : k < ds.length := by have := HN.out; omega
      obtain ⟨b, o, rfl, hcc⟩ := HC.out (by omega)
      have hcell := hcc k hj
      have ht := num_take_succ ds k
      have hx1 := getD_lt HD.out k
      have hs1 := num_take_lt HD.out (j := k) (by omega)
      rw [← hv.out] at ht hs1
      obtain ⟨x, hx⟩ : ∃ d, d = ds.getD k 0 := ⟨_, rfl⟩
      rw [← hx] at hcell ht hx1
      have hjoin := join_digit (u := s) (x := x) (k := k) (by omega) hs1 hx1
      obtain ⟨s2, hs2⟩ : ∃ t, t = s + 4294967296 ^ k * x := ⟨_, rfl⟩
      rw [← hs2] at hjoin ht
      have hs2b : s2 < 18446744073709551616 := by
        rcases (show k = 0 ∨ k = 1 by omega) with rfl | rfl
        · simp at hs2 hs1; omega
        · simp at hs2 hs1; omega
      have HT := Lib.hid ht
      clear hcc hx ht hs1 hs2
      rcases (show k = 0 ∨ k = 1 by omega) with rfl | rfl
      · rw [Int.pow_zero, Int.mul_one] at hjoin
        rw [Nat.add_zero] at hcell
        go_wp2
        go_round
        case rel => exact ⟨1, s2, by omega, rfl, rfl, hs2b, HT.out.symm⟩
        case measure => simp [intOf]; omega
      · rw [Int.pow_one] at hjoin
        go_wp2
        go_round
        case rel => exact ⟨2, s2, by omega, rfl, rfl, hs2b, HT.out.symm⟩
        case measure => simp [intOf]; omega
    · obtain rfl : k = n := by omega
      have e : s = num ds := by
        rw [hv.out, List.take_of_length_le (by have := HN.out; omega)]
      subst e
      go_wp2
      go_ret
      exact ⟨rfl, rfl⟩
theorem uint_any (va : Value) (xs : List Nat) (w : World) (hx : Row w va xs) (lx : xs.length ≤ 10000) :
    Calls Try.prog 37 #[va] w fun e w' => e = .returned (.tuple #[.int .u64 (((uintD xs).1 : Nat) : Int), .int .i64 (uintD xs).2]) ∧ Since w w' := by
  have H := Lib.hid hx
  obtain ⟨hd, A, c, rfl, _, -⟩ := hx
  clear hd
  by_cases r1 : rightB xs = true
  · by_cases h2 : 2 < xs.length
    · have e : uintD xs = (0, 4) := by rw [uintD, if_pos r1, if_pos h2]
      rw [e]
      clear e
      go_enter Try.func37, Try.ntmps37
      go_wp2_with (go_at_call 41; (with_reducible refine (right_yes (.slice A xs.length c) xs _ H.out lx).mono ?_); rintro e w1 ⟨rfl, rfl⟩)
      go_ret2
      exact ⟨rfl, Since.refl _⟩
    · have e : uintD xs = (num xs, 0) := by rw [uintD, if_pos r1, if_neg h2]
      have h2' : xs.length ≤ 2 := by omega
      rw [e]
      clear e h2
      go_enter Try.func37, Try.ntmps37
      go_wp2_with (first
        | (go_at_call 41; (with_reducible refine (right_yes (.slice A xs.length c) xs _ H.out lx).mono ?_); rintro e w1 ⟨rfl, rfl⟩)
        | (go_at_call 61; (with_reducible refine (value_any (.slice A xs.length c) xs _ H.out h2').mono ?_); rintro e w1 ⟨rfl, rfl⟩))
      go_ret2
      exact ⟨rfl, Since.refl _⟩
  · have r1' : rightB xs = false := by simpa using r1
    have e : uintD xs = (0, 2) := by rw [uintD, if_neg r1]
    rw [e]
    clear r1 e
    go_enter Try.func37, Try.ntmps37
    go_wp2_with (go_at_call 41; (with_reducible refine (right_yes (.slice A xs.length c) xs _ H.out lx).mono ?_); rintro e w1 ⟨rfl, rfl⟩)
    go_ret2
    exact ⟨rfl, Since.refl _⟩
end Go.Proofs.Ytmnankcllblgjaa.Nat02
