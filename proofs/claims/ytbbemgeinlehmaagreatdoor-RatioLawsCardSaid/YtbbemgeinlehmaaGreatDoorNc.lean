/- What significant, Right, compare, Cmp, value and Uint of package nat give back. What clone, cut and Of of package nat give back. What Of of package nat gives back. What sumLength and Add of package nat give back. What Sub of package nat gives back. -/
import Derived.Test.YtbbemgeinlehmaaGreatDoorNb
import Derived.Test.YtbbemgeinlehmaaGreatDoorN2D
import Derived.Deep.RegionHeld3
namespace Go.Proofs.YtbbemgeinlehmaaGreatDoor.Nat02
open Go.RowKit
set_option linter.unusedVariables false
open Go.Proofs.YtbbemgeinlehmaaGreatDoor.Dig

set_option maxHeartbeats 800000 in
theorem significant_any (v : Value) (ds : List Nat) (w : World) (h : Row w v ds) (hl : ds.length ≤ 1000000) :
    Calls Tryz.prog 104 #[v] w fun e w' => e = .returned (.int .i64 ((sig ds : Nat) : Int)) ∧ w = w' := by
  obtain ⟨hd, A, c, rfl, hc, -⟩ := h
  have HC := Lib.hid hc
  have HD := Lib.hid hd
  obtain ⟨n, hn⟩ : ∃ n, n = ds.length := ⟨_, rfl⟩
  obtain ⟨S, hS⟩ : ∃ n, n = sig ds := ⟨_, rfl⟩
  rw [← hn] at hl ⊢
  rw [← hS]
  have HN := Lib.hid (And.intro hn hS)
  clear hc hd hn hS
  go_enter Tryz.func104, Tryz.ntmps104
  go_wp2
  go_loop [3] (fun i => ∃ k : Nat, k ≤ n ∧ i = .int .i64 k ∧ Hid (∀ i, k ≤ i → i < ds.length → ds.getD i 0 = 0)) (fun i => (intOf i).toNat)
  case atStart => exact ⟨n, Nat.le_refl _, rfl, fun i h1 h2 => by have := HN.out.1; omega⟩
  case round =>
    obtain ⟨k, hk, rfl, hz⟩ := hrel
    rcases k with _ | j
    · have e : S = 0 := by rw [HN.out.2]; exact (sig_of HD.out (k := 0) (by omega) hz.out (.inl rfl)).1
      subst e
      go_wp2
      go_ret
      exact ⟨rfl, rfl⟩
    · have hj : j < ds.length := by have := HN.out.1; omega
      obtain ⟨b, o, rfl, hcc⟩ := HC.out (by omega)
      have hcell := hcc j hj
      obtain ⟨d, hdd⟩ : ∃ d, d = ds.getD j 0 := ⟨_, rfl⟩
      rw [← hdd] at hcell
      have HDD := Lib.hid hdd
      clear hcc hdd hj
      by_cases hdz : d = 0
      · subst hdz
        go_wp2
        go_round
        case rel => exact ⟨j, by omega, rfl, fun i h1 h2 => by
          by_cases e : i = j
          · subst e; exact HDD.out.symm
          · exact hz.out i (by omega) h2⟩
        case measure => simp [intOf]
      · have hdb : ((d : Int) == 0) = false := by simp; omega
        have e : S = j + 1 := by
          rw [HN.out.2]
          exact (sig_of HD.out (k := j + 1) (by have := HN.out.1; omega) hz.out (.inr (by rw [Nat.add_sub_cancel, ← HDD.out]; exact hdz))).1
        subst e
        clear hdz
        go_wp2
        go_ret
        exact ⟨rfl, rfl⟩

theorem right_yes (v : Value) (ds : List Nat) (w : World) (h : Row w v ds) (hl : ds.length ≤ 10000) :
    Calls Tryz.prog 88 #[v] w fun e w' => e = .returned (.bool (rightB ds)) ∧ w = w' := by
  have H := Lib.hid h
  rw [right_sig h.dig]
  obtain ⟨hd, A, c, rfl, hc, -⟩ := h
  clear hc
  by_cases h1 : ds.length ≤ 256
  · have e : (decide (ds.length ≤ 256) && decide (sig ds = ds.length)) = ((sig ds : Int) == (ds.length : Int)) := by
      rw [decide_eq_true h1, Bool.true_and, Bool.eq_iff_iff]; simp only [decide_eq_true_eq, beq_iff_eq]; omega
    rw [e]
    clear e hd
    go_enter Tryz.func88, Tryz.ntmps88
    go_wp2_with (go_at_call 104; (with_reducible refine (significant_any (.slice A ds.length c) ds _ H.out (by omega)).mono ?_); rintro e w1 ⟨rfl, rfl⟩)
    go_ret
    exact ⟨rfl, rfl⟩
  · have e : (decide (ds.length ≤ 256) && decide (sig ds = ds.length)) = false := by
      rw [decide_eq_false h1, Bool.false_and]
    rw [e]
    have h2 : 256 < ds.length := by omega
    clear e hd h1
    go_enter Tryz.func88, Tryz.ntmps88
    go_wp2_with (go_at_call 104; (with_reducible refine (significant_any (.slice A ds.length c) ds _ H.out (by omega)).mono ?_); rintro e w1 ⟨rfl, rfl⟩)
    go_ret
    exact ⟨rfl, rfl⟩
theorem right_any (v : Value) (ds : List Nat) (w : World) (h : Row w v ds) (hl : ds.length ≤ 10000) :
    Calls Tryz.prog 88 #[v] w fun e w' => e = .returned (.bool (rightB ds)) ∧ Since w w' :=
  (right_yes v ds w h hl).mono fun e w' ⟨he, hw⟩ => ⟨he, hw ▸ Since.refl w⟩

/-- of lists of one length that are one from a place on, the digit before it tells -/
theorem cmpL_at {xs ys : List Nat} (hx : IsDig xs) (hy : IsDig ys) (hl : xs.length = ys.length) {j : Nat} (h : j < xs.length) (he : xs.drop (j + 1) = ys.drop (j + 1)) :
    (xs.getD j 0 < ys.getD j 0 → cmpL xs ys = -1) ∧ (ys.getD j 0 < xs.getD j 0 → cmpL xs ys = 1) := by
  refine ⟨fun hlt => ?_, fun hlt => ?_⟩
  · have := less_at hx hl h he hlt
    unfold cmpL; rw [if_neg (by omega), if_neg (by omega), if_pos this]
  · have := less_at hy hl.symm (by omega) he.symm hlt
    unfold cmpL; rw [if_neg (by omega), if_neg (by omega), if_neg (by omega), if_pos this]
theorem cmpL_self {xs ys : List Nat} (h : xs = ys) : cmpL xs ys = 0 := by
  subst h; unfold cmpL; simp
/-- what is compared, and the world has drawn at most -/
def RetCmp (c : Int) (w : World) (e : Ending) (w' : World) : Prop := e = .returned (.int .i64 c) ∧ ∃ n, w' = w.drewN n

set_option maxRecDepth 100000 in
set_option maxHeartbeats 800000 in
theorem compare_any (va vb : Value) (xs ys : List Nat) (w : World) (hx : Row w va xs) (hy : Row w vb ys) (lx : xs.length ≤ 1000000) (ly : ys.length ≤ 1000000) :
    Calls Tryz.prog 100 #[va, vb] w (RetCmp (cmpL xs ys) w) := by
  obtain ⟨C, hC⟩ : ∃ c, c = cmpL xs ys := ⟨_, rfl⟩
  rw [← hC]
  obtain ⟨dx, A, cA, rfl, hcx, -⟩ := hx
  obtain ⟨dy, B, cB, rfl, hcy, -⟩ := hy
  have HC := Lib.hid (And.intro hcx hcy)
  have HD := Lib.hid (And.intro dx dy)
  clear hcx hcy dx dy
  by_cases h1 : xs.length < ys.length
  · have e : C = -1 := by rw [hC, cmpL, if_pos h1]
    subst e
    clear hC
    go_enter Tryz.func100, Tryz.ntmps100
    go_wp2
    go_ret
    exact ⟨rfl, 0, rfl⟩
  · by_cases h2 : ys.length < xs.length
    · have e : C = 1 := by rw [hC, cmpL, if_neg h1, if_pos h2]
      subst e
      clear hC
      have h1' : ys.length ≤ xs.length := by omega
      clear h1
      go_enter Tryz.func100, Tryz.ntmps100
      go_wp2
      go_ret
      exact ⟨rfl, 0, rfl⟩
    · have hl : xs.length = ys.length := by omega
      have HS := Lib.hid (And.intro hC hl)
      obtain ⟨n, hn⟩ : ∃ n, n = xs.length := ⟨_, rfl⟩
      have hn2 : n = ys.length := by omega
      rw [← hn] at lx h1 h2 ⊢
      rw [← hn2] at h1 h2 ⊢
      have HN := Lib.hid (And.intro hn hn2)
      clear hC hl hn hn2 ly h1 h2
      go_enter Tryz.func100, Tryz.ntmps100
      go_wp2
      go_loopw [5] (fun i wr => ∃ k : Nat, k ≤ n ∧ i = .int .i64 ((k : Int) - 1) ∧ Hid (xs.drop k = ys.drop k) ∧ ∃ m, wr = w.drewN m) (fun i _ => (intOf i + 1).toNat)
      case atStart => exact ⟨n, Nat.le_refl _, by go_num, by show _ = _; rw [List.drop_of_length_le (by have := HN.out.1; omega), List.drop_of_length_le (by have := HN.out.2; omega)], 0, rfl⟩
      case round =>
        obtain ⟨k, hk, rfl, he, m, rfl⟩ := hrel
        rcases k with _ | j
        · have e : C = 0 := by
            rw [HS.out.1]
            have := he.out
            rw [List.drop_zero, List.drop_zero] at this
            exact cmpL_self this
          subst e
          go_wp2
          go_ret
          exact ⟨rfl, m, rfl⟩
        · have e : ((j + 1 : Nat) : Int) - 1 = (j : Int) := by omega
          rw [e]
          clear e
          have hj : j < n := by omega
          obtain ⟨b, o, rfl, hcc⟩ := HC.out.1 (by have := HN.out.1; omega)
          obtain ⟨b2, o2, rfl, hcc2⟩ := HC.out.2 (by have := HN.out.2; omega)
          have hcell := hcc j (by have := HN.out.1; omega)
          have hcell2 := hcc2 j (by have := HN.out.2; omega)
          have hat := cmpL_at HD.out.1 HD.out.2 HS.out.2 (by have := HN.out.1; omega) he.out
          have hmore := drop_more_eq (xs := xs) (ys := ys) HS.out.2 (k := j) (by have := HN.out.1; omega) he.out
          rw [← HS.out.1] at hat
          obtain ⟨x, hx⟩ : ∃ d, d = xs.getD j 0 := ⟨_, rfl⟩
          obtain ⟨y, hy⟩ : ∃ d, d = ys.getD j 0 := ⟨_, rfl⟩
          rw [← hx, ← hy] at hat hmore
          rw [← hx] at hcell
          rw [← hy] at hcell2
          have HM := Lib.hid hmore
          have i1 : (0 : Int) ≤ (j : Int) := by omega
          have i2 : (j : Int) < (n : Int) := by omega
          clear hcc hcc2 hx hy hmore
          rcases Nat.lt_trichotomy x y with h | h | h
          · have e : C = -1 := hat.1 h
            subst e
            clear hat
            go_wp2
            go_quiet (fail)
            go_wp2
            go_ret
            exact ⟨rfl, _, by go_simp; rfl⟩
          · subst h
            clear hat
            go_wp2
            go_quiet (fail)
            go_wp2
            go_quiet (fail)
            go_wp2
            go_roundw
            case rel => exact ⟨j, by omega, rfl, HM.out trivial, _, by go_simp; rfl⟩
            case measure => simp [intOf] <;> omega
          · have e : C = 1 := hat.2 h
            subst e
            have h' : ¬ x < y := by omega
            have h'' : y ≤ x := by omega
            clear hat
            go_wp2
            go_quiet (fail)
            go_wp2
            go_quiet (fail)
            go_wp2
            go_ret
            exact ⟨rfl, _, by go_simp; rfl⟩

theorem cmp_any (va vb : Value) (xs ys : List Nat) (w : World) (hx : Row w va xs) (hy : Row w vb ys) (lx : xs.length ≤ 10000) (ly : ys.length ≤ 10000) :
    Calls Tryz.prog 79 #[va, vb] w fun e w' => e = .returned (.tuple #[.int .i64 (cmpD xs ys).1, .int .i64 (cmpD xs ys).2]) ∧ Since w w' := by
  have H := Lib.hid (And.intro hx hy)
  rw [cmpD_cmpL hx.dig hy.dig]
  clear hx hy
  by_cases r1 : rightB xs = true
  · by_cases r2 : rightB ys = true
    · rw [if_pos ⟨r1, r2⟩]
      go_enter Tryz.func79, Tryz.ntmps79
      go_wp2_with (first
        | (go_at_call 88; (with_reducible refine (right_yes va xs _ H.out.1 lx).mono ?_); rintro e w1 ⟨rfl, rfl⟩)
        | (go_at_call 88; (with_reducible refine (right_yes vb ys _ H.out.2 ly).mono ?_); rintro e w1 ⟨rfl, rfl⟩)
        | (go_at_call 100; (with_reducible refine (compare_any va vb xs ys _ H.out.1 H.out.2 (by omega) (by omega)).mono ?_); rintro e w1 ⟨rfl, n, rfl⟩))
      go_ret2
      exact ⟨rfl, (Since.refl _).drewN _⟩
    · have r2' : rightB ys = false := by simpa using r2
      rw [if_neg (fun h => r2 h.2)]
      clear r2
      go_enter Tryz.func79, Tryz.ntmps79
      go_wp2_with (first
        | (go_at_call 88; (with_reducible refine (right_yes va xs _ H.out.1 lx).mono ?_); rintro e w1 ⟨rfl, rfl⟩)
        | (go_at_call 88; (with_reducible refine (right_yes vb ys _ H.out.2 ly).mono ?_); rintro e w1 ⟨rfl, rfl⟩))
      go_ret2
      exact ⟨rfl, Since.refl _⟩
  · have r1' : rightB xs = false := by simpa using r1
    rw [if_neg (fun h => r1 h.1)]
    clear r1
    go_enter Tryz.func79, Tryz.ntmps79
    go_wp2_with (first
      | (go_at_call 88; (with_reducible refine (right_yes va xs _ H.out.1 lx).mono ?_); rintro e w1 ⟨rfl, rfl⟩))
    go_ret2
    exact ⟨rfl, Since.refl _⟩

theorem join_digit {u x k : Nat} (hk : k ≤ 1) (hu : u < 4294967296 ^ k) (hx : x < 4294967296) : bits .or .u64 (u : Int) ((x : Int) * 4294967296 ^ k) = ((u + 4294967296 ^ k * x : Nat) : Int) := by
  rcases (show k = 0 ∨ k = 1 by omega) with rfl | rfl
  · have e : u = 0 := by simpa using hu
    subst e
    have := u64_or_nat 0 x (by omega) (by omega)
    simpa using this
  · have := u64_or_nat u (4294967296 * x) (by omega) (by omega)
    rw [Nat.or_comm, nat_join 32 _ _ (by omega) (by omega)] at this
    rw [show (x : Int) * 4294967296 ^ 1 = ((4294967296 * x : Nat) : Int) by omega, this]
    simp; omega
set_option maxRecDepth 100000 in
theorem value_any (v : Value) (ds : List Nat) (w : World) (h : Row w v ds) (hl : ds.length ≤ 2) :
    Calls Tryz.prog 90 #[v] w fun e w' => e = .returned (.int .u64 ((num ds : Nat) : Int)) ∧ w = w' := by
  obtain ⟨hd, A, c, rfl, hc, -⟩ := h
  have HC := Lib.hid hc
  have HD := Lib.hid hd
  obtain ⟨n, hn⟩ : ∃ n, n = ds.length := ⟨_, rfl⟩
  rw [← hn] at hl ⊢
  have HN := Lib.hid hn
  clear hc hd hn
  go_enter Tryz.func90, Tryz.ntmps90
  go_wp2
  go_loop [3, 7] (fun u i => ∃ (k s : Nat), k ≤ n ∧ i = .int .i64 k ∧ u = .int .u64 s ∧ s < 18446744073709551616 ∧ Hid (s = num (ds.take k))) (fun _ i => n - (intOf i).toNat)
  case atStart => exact ⟨0, 0, by omega, rfl, rfl, by omega, rfl⟩
  case round =>
    obtain ⟨k, s, hk, rfl, rfl, hs, hv⟩ := hrel
    by_cases hlt : k < n
    · have hj : k < ds.length := by have := HN.out; omega
      obtain ⟨b, o, rfl, hcc⟩ := HC.out (by omega)
      have hcell := hcc k hj
      have ht := num_take_succ ds k
      have hx1 := getD_lt HD.out k
      have hs1 := num_take_lt HD.out (j := k) (by omega)
      rw [← hv.out] at ht hs1
      obtain ⟨x, hx⟩ : ∃ d, d = ds.getD k 0 := ⟨_, rfl⟩
      rw [← hx] at hcell ht hx1
      have hjoin := join_digit (u := s) (x := x) (k := k) (by omega) hs1 hx1
      obtain ⟨s2, hs2⟩ : ∃ t, t = s + 4294967296 ^ k * x := ⟨_, rfl⟩
      rw [← hs2] at hjoin ht
      have hs2b : s2 < 18446744073709551616 := by
        rcases (show k = 0 ∨ k = 1 by omega) with rfl | rfl
        · simp at hs2 hs1; omega
        · simp at hs2 hs1; omega
      have HT := Lib.hid ht
      clear hcc hx ht hs1 hs2
      rcases (show k = 0 ∨ k = 1 by omega) with rfl | rfl
      · rw [Int.pow_zero, Int.mul_one] at hjoin
        rw [Nat.add_zero] at hcell
        go_wp2
        go_round
        case rel => exact ⟨1, s2, by omega, rfl, rfl, hs2b, HT.out.symm⟩
        case measure => simp [intOf]; omega
      · rw [Int.pow_one] at hjoin
        go_wp2
        go_round
        case rel => exact ⟨2, s2, by omega, rfl, rfl, hs2b, HT.out.symm⟩
        case measure => simp [intOf]; omega
    · obtain rfl : k = n := by omega
      have e : s = num ds := by
        rw [hv.out, List.take_of_length_le (by have := HN.out; omega)]
      subst e
      go_wp2
      go_ret
      exact ⟨rfl, rfl⟩
theorem uint_any (va : Value) (xs : List Nat) (w : World) (hx : Row w va xs) (lx : xs.length ≤ 10000) :
    Calls Tryz.prog 69 #[va] w fun e w' => e = .returned (.tuple #[.int .u64 (((uintD xs).1 : Nat) : Int), .int .i64 (uintD xs).2]) ∧ Since w w' := by
  have H := Lib.hid hx
  obtain ⟨hd, A, c, rfl, _, -⟩ := hx
  clear hd
  by_cases r1 : rightB xs = true
  · by_cases h2 : 2 < xs.length
    · have e : uintD xs = (0, 4) := by rw [uintD, if_pos r1, if_pos h2]
      rw [e]
      clear e
      go_enter Tryz.func69, Tryz.ntmps69
      go_wp2_with (go_at_call 88; (with_reducible refine (right_yes (.slice A xs.length c) xs _ H.out lx).mono ?_); rintro e w1 ⟨rfl, rfl⟩)
      go_ret2
      exact ⟨rfl, Since.refl _⟩
    · have e : uintD xs = (num xs, 0) := by rw [uintD, if_pos r1, if_neg h2]
      have h2' : xs.length ≤ 2 := by omega
      rw [e]
      clear e h2
      go_enter Tryz.func69, Tryz.ntmps69
      go_wp2_with (first
        | (go_at_call 88; (with_reducible refine (right_yes (.slice A xs.length c) xs _ H.out lx).mono ?_); rintro e w1 ⟨rfl, rfl⟩)
        | (go_at_call 90; (with_reducible refine (value_any (.slice A xs.length c) xs _ H.out h2').mono ?_); rintro e w1 ⟨rfl, rfl⟩))
      go_ret2
      exact ⟨rfl, Since.refl _⟩
  · have r1' : rightB xs = false := by simpa using r1
    have e : uintD xs = (0, 2) := by rw [uintD, if_neg r1]
    rw [e]
    clear r1 e
    go_enter Tryz.func69, Tryz.ntmps69
    go_wp2_with (go_at_call 88; (with_reducible refine (right_yes (.slice A xs.length c) xs _ H.out lx).mono ?_); rintro e w1 ⟨rfl, rfl⟩)
    go_ret2
    exact ⟨rfl, Since.refl _⟩
end Go.Proofs.YtbbemgeinlehmaaGreatDoor.Nat02

namespace Go.Proofs.YtbbemgeinlehmaaGreatDoor.Nat02
open Go.RowKit
set_option linter.unusedVariables false
open Go.Proofs.YtbbemgeinlehmaaGreatDoor.Dig

/-- a new block with just these digits -/
def RetNew (ds : List Nat) (w : World) (e : Ending) (w' : World) : Prop := ∃ g, e = .returned (.slice (some ⟨g, 0, none⟩) ds.length ds.length) ∧ w.heap.size ≤ g ∧ Blk w' g ds ∧ Since w w'
theorem RetNew.row {ds : List Nat} {w : World} {e : Ending} {w' : World} (h : RetNew ds w e w') : RetRow ds w e w' := by
  obtain ⟨g, he, _, hb, hs⟩ := h
  exact ⟨_, he, hb.row_all rfl (Nat.le_refl _), hs⟩

theorem splice_zero_end {n : Nat} {ds : List Nat} (h : ds.length = n) : splice (List.replicate n 0) 0 ds = ds := by
  subst h; simp [splice]
set_option maxRecDepth 100000 in
set_option maxHeartbeats 800000 in
theorem clone_any (v : Value) (ds : List Nat) (n : Nat) (w : World) (h : Row w v ds) (hn : n ≤ ds.length) (hl : ds.length ≤ 100000) :
    Calls Tryz.prog 102 #[v, .int .i64 (n : Int)] w (RetNew (ds.take n) w) := by
  have H := Lib.hid h
  obtain ⟨hd, A, c, rfl, hc, -⟩ := h
  have HC := Lib.hid hc
  have HD := Lib.hid hd
  have hm := make_digits n (by omega)
  obtain ⟨m, hm2⟩ : ∃ n, n = ds.length := ⟨_, rfl⟩
  have hnm : n ≤ m := by omega
  rw [← hm2] at hl ⊢
  have HN := Lib.hid (And.intro hm2 hn)
  clear hc hd hm2 hn
  go_enter Tryz.func102, Tryz.ntmps102
  go_wp2
  go_loopw [10] (fun i wr => ∃ k : Nat, k ≤ n ∧ i = .int .i64 k ∧ Hid (Blk wr w.heap.size (splice (List.replicate n 0) 0 (ds.take k))) ∧ Since w wr) (fun i _ => n - (intOf i).toNat)
  case atStart => exact ⟨0, by omega, rfl, by rw [List.take_zero, splice_nil]; exact Blk.made w n, since_made w _ _⟩
  case round =>
    obtain ⟨k, hk, rfl, hb, hw⟩ := hrel
    by_cases hlt : k < n
    · have hj : k < ds.length := by have := HN.out; omega
      obtain ⟨b, o, rfl, hcc⟩ := HC.out (by omega)
      have hcell := (Below.cell hw (World.block_lt_of_cell? _ _ (hcc k hj))).trans (hcc k hj)
      have hlen : (splice (List.replicate n 0) 0 (ds.take k)).length = n := by rw [splice_len (by simp; omega)]; simp
      have g1 := hb.out.cell (i := k) (by omega)
      have g2 := hb.out.frozen k
      have hset := hb.out.set (i := k) (d := ds.getD k 0) (by omega) (getD_lt HD.out k)
      have e1 := splice_set (ds := List.replicate n 0) (o := 0) (d := ds.getD k 0) (outs := ds.take k) (by simp; omega)
      rw [List.length_take, Nat.min_eq_left (by omega), Nat.zero_add, ← take_more hj] at e1
      rw [e1] at hset
      obtain ⟨x, hx⟩ : ∃ d, d = ds.getD k 0 := ⟨_, rfl⟩
      obtain ⟨z, hz⟩ : ∃ d, d = (splice (List.replicate n 0) 0 (ds.take k)).getD k 0 := ⟨_, rfl⟩
      rw [← hx] at hcell hset
      rw [← hz] at g1
      have HS := Lib.hid hset
      clear hcc hx hz hset e1 hlen hj
      go_wp2
      go_roundw
      case rel => exact ⟨k + 1, by omega, by go_num, HS.out, hw.set (Nat.le_refl _) _⟩
      case measure => simp [intOf]; omega
    · obtain rfl : k = n := by omega
      have e : splice (List.replicate k 0) 0 (ds.take k) = ds.take k := splice_zero_end (by have := HN.out; simp; omega)
      rw [e] at hb
      have e2 : (ds.take k).length = k := by have := HN.out; simp; omega
      have E2 := Lib.hid e2
      clear e e2
      go_wp2
      go_ret
      exact ⟨w.heap.size, by rw [E2.out]; rfl, Nat.le_refl _, hb.out, hw⟩

/-- the digits without noughts at the end: the very same slice, or a new one -/
theorem cut_any (g : Nat) (ds : List Nat) (w : World) (h : Blk w g ds) (hl : ds.length ≤ 100000) :
    Calls Tryz.prog 110 #[.slice (some ⟨g, 0, none⟩) ds.length ds.length] w (fun e w' => ∃ g', e = .returned (.slice (some ⟨g', 0, none⟩) (digs (num ds)).length (digs (num ds)).length) ∧ Row w' (.slice (some ⟨g', 0, none⟩) (digs (num ds)).length (digs (num ds)).length) (digs (num ds)) ∧ Since w w') := by
  have H := Lib.hid h
  have hr := h.row_all (n := ds.length) (c := ds.length) rfl (Nat.le_refl _)
  have HR := Lib.hid hr
  have ht := take_sig h.dig
  have hs := sig_le h.dig
  have e : (digs (num ds)).length = sig ds := rfl
  rw [e]
  clear e hr h
  by_cases h1 : sig ds = ds.length
  · have e : digs (num ds) = ds := by rw [ht, h1, List.take_length]
    rw [e]
    have h2 : ((sig ds : Int) == (ds.length : Int)) = true := by rw [beq_iff_eq]; omega
    have HS := Lib.hid h1
    clear h1 ht e
    go_enter Tryz.func110, Tryz.ntmps110
    go_wp2_with (go_at_call 104; (with_reducible refine (significant_any _ ds _ HR.out (by omega)).mono ?_); rintro e w1 ⟨rfl, rfl⟩)
    go_ret
    exact ⟨g, by rw [HS.out]; rfl, by rw [HS.out]; exact HR.out, Since.refl _⟩
  · have h2 : ((sig ds : Int) == (ds.length : Int)) = false := by rw [beq_eq_false_iff_ne]; omega
    have HT := Lib.hid ht
    have HL := Lib.hid (show (ds.take (sig ds)).length = sig ds by simp; omega)
    clear h1 ht
    go_enter Tryz.func110, Tryz.ntmps110
    go_wp2_with (first
      | (go_at_call 104; (with_reducible refine (significant_any _ ds _ HR.out (by omega)).mono ?_); rintro e w1 ⟨rfl, rfl⟩)
      | (go_at_call 102; (with_reducible refine (clone_any _ ds (sig ds) _ HR.out hs hl).mono ?_); rintro e w1 ⟨g2, rfl, hg2, hb2, hs2⟩))
    go_ret
    exact ⟨g2, by rw [← HL.out]; rfl, by rw [HT.out]; exact ‹Blk _ g2 _›.row_all HL.out (Nat.le_refl _), ‹_›⟩
end Go.Proofs.YtbbemgeinlehmaaGreatDoor.Nat02

namespace Go.Proofs.YtbbemgeinlehmaaGreatDoor.Nat02
open Go.RowKit
set_option linter.unusedVariables false
open Go.Proofs.YtbbemgeinlehmaaGreatDoor.Dig

theorem bitLen_ge (x k : Nat) (hx : x < 2 ^ 64) (hk : k ≤ 64) (h : 2 ^ k ≤ x) : k < Lib.bitLen x := by
  rw [Lib.bitLen_shift k x h hx]
  have : x / 2 ^ k ≠ 0 := by
    have := Nat.div_pos h (Nat.pow_pos (by omega))
    omega
  rw [Lib.bitLen_half _ this (Nat.lt_of_le_of_lt (Nat.div_le_self _ _) hx)]
  omega
theorem bits_digits (u : Nat) (hu : u < 18446744073709551616) : (Lib.bitLen u + 31) / 32 = (digs u).length ∧ (digs u).length ≤ 2 ∧ Lib.bitLen u ≤ 64 := by
  have h64 := Lib.bitLen_le u 64 (by omega) hu
  by_cases h0 : u = 0
  · subst h0; exact ⟨by decide, by simp [digs_zero], h64⟩
  · have g0 := bitLen_ge u 0 hu (by omega) (by omega)
    by_cases h1 : u < 4294967296
    · have := Lib.bitLen_le u 32 (by omega) h1
      have e : (digs u).length = 1 := by rw [digs_pos h0, Nat.div_eq_of_lt h1, digs_zero]; rfl
      omega
    · have g1 := bitLen_ge u 32 hu (by omega) (by omega)
      have e : (digs u).length = 2 := by
        rw [digs_pos h0, digs_pos (by omega), show u / 4294967296 / 4294967296 = 0 by omega, digs_zero]; rfl
      omega
theorem digs_at (u : Nat) (hu : u < 18446744073709551616) : (0 < (digs u).length → (digs u).getD 0 0 = u % 4294967296) ∧ (1 < (digs u).length → (digs u).getD 1 0 = u / 4294967296 % 4294967296) := by
  refine ⟨fun h => ?_, fun h => ?_⟩
  · have h0 : u ≠ 0 := by rintro rfl; simp [digs_zero] at h
    rw [digs_pos h0]; rfl
  · have h0 : u ≠ 0 := by rintro rfl; simp [digs_zero] at h
    rw [digs_pos h0] at h ⊢
    have h1 : u / 4294967296 ≠ 0 := by intro e; rw [e, digs_zero] at h; simp at h
    rw [digs_pos h1]; rfl

set_option maxRecDepth 100000 in
set_option maxHeartbeats 800000 in
theorem of_new (u : Nat) (w : World) (hu : u < 18446744073709551616) : Calls Tryz.prog 68 #[.int .u64 (u : Int)] w (RetNew (digs u) w) := by
  obtain ⟨hb1, hb2, hb3⟩ := bits_digits u hu
  obtain ⟨hd0, hd1⟩ := digs_at u hu
  have hD := isDig_digs u
  obtain ⟨B, hB⟩ : ∃ b, b = Lib.bitLen u := ⟨_, rfl⟩
  obtain ⟨ds, hds⟩ : ∃ b, b = digs u := ⟨_, rfl⟩
  rw [← hB] at hb1 hb3
  rw [← hds] at hb1 hb2 hd0 hd1 hD ⊢
  have HL := Lib.hid fun W => Bits.len64 (u : Int) W (by omega) (by omega)
  simp only [Int.toNat_natCast, ← hB] at HL
  obtain ⟨n, hn⟩ : ∃ b, b = ds.length := ⟨_, rfl⟩
  rw [← hn] at hb1 hb2 hd0 hd1
  have hq : ((B : Int) + 32 - 1) / 32 = (n : Int) := by omega
  have hm := make_digits n (by omega)
  have HD := Lib.hid (And.intro hd0 (And.intro hd1 (And.intro hD hn)))
  clear hd0 hd1 hB hds hb1 hD hn
  go_enter Tryz.func68, Tryz.ntmps68
  go_wp2_with (go_at_call 89; (with_reducible refine (HL.out _).mono ?_); rintro e w1 ⟨rfl, rfl⟩)
  go_loopw [13] (fun i wr => ∃ k : Nat, k ≤ n ∧ i = .int .i64 k ∧ Hid (Blk wr w1.heap.size (splice (List.replicate n 0) 0 (ds.take k))) ∧ Since w1 wr) (fun i _ => n - (intOf i).toNat)
  case atStart => exact ⟨0, by omega, rfl, by rw [List.take_zero, splice_nil]; exact Blk.made w1 n, since_made w1 _ _⟩
  case round =>
    obtain ⟨k, hk, rfl, hb, hw⟩ := hrel
    by_cases hlt : k < n
    · have hj : k < ds.length := by have := HD.out.2.2.2; omega
      have hlen : (splice (List.replicate n 0) 0 (ds.take k)).length = n := by rw [splice_len (by simp; omega)]; simp
      have g1 := hb.out.cell (i := k) (by omega)
      have g2 := hb.out.frozen k
      have hset := hb.out.set (i := k) (d := ds.getD k 0) (by omega) (getD_lt HD.out.2.2.1 k)
      have e1 := splice_set (ds := List.replicate n 0) (o := 0) (d := ds.getD k 0) (outs := ds.take k) (by simp; omega)
      rw [List.length_take, Nat.min_eq_left (by omega), Nat.zero_add, ← take_more hj] at e1
      rw [e1] at hset
      obtain ⟨z, hz⟩ : ∃ d, d = (splice (List.replicate n 0) 0 (ds.take k)).getD k 0 := ⟨_, rfl⟩
      rw [← hz] at g1
      clear hz e1 hlen hj
      rcases (show k = 0 ∨ k = 1 by omega) with rfl | rfl
      · rw [HD.out.1 hlt] at hset
        have HS := Lib.hid hset
        clear hset
        go_wp2
        go_roundw
        case rel => exact ⟨1, by omega, rfl, HS.out, hw.set (Nat.le_refl _) _⟩
        case measure => simp [intOf]; omega
      · rw [HD.out.2.1 hlt, Nat.mod_eq_of_lt (by omega : u / 4294967296 < 4294967296)] at hset
        have HS := Lib.hid hset
        clear hset
        go_wp2
        go_roundw
        case rel => exact ⟨2, by omega, rfl, HS.out, hw.set (Nat.le_refl _) _⟩
        case measure => simp [intOf]; omega
    · obtain rfl : k = n := by omega
      have e : splice (List.replicate k 0) 0 (ds.take k) = ds := by
        rw [List.take_of_length_le (by have := HD.out.2.2.2; omega)]
        exact splice_zero_end HD.out.2.2.2.symm
      rw [e] at hb
      clear e
      go_wp2
      go_ret
      exact ⟨w1.heap.size, by rw [← HD.out.2.2.2]; rfl, Nat.le_refl _, hb.out, hw⟩
theorem of_any (u : Nat) (w : World) (hu : u < 18446744073709551616) : Calls Tryz.prog 68 #[.int .u64 (u : Int)] w (RetRow (digs u) w) :=
  (of_new u w hu).mono fun _ _ h => h.row
end Go.Proofs.YtbbemgeinlehmaaGreatDoor.Nat02

namespace Go.Proofs.YtbbemgeinlehmaaGreatDoor.Nat02
open Go.RowKit
set_option linter.unusedVariables false
open Go.Proofs.YtbbemgeinlehmaaGreatDoor.Dig

theorem len_same {xs : List Nat} {S : Nat} (hd : IsDig xs) (nx : Norm xs) (h0 : xs.length = 0 → S = 0) (h1 : num xs ≤ S) (h2 : S < 4294967296 ^ xs.length) : (digs S).length = xs.length := by
  by_cases h : xs.length = 0
  · rw [h0 h, h]; rfl
  · have := norm_ge nx h
    have e := digs_len_of (n := S) (k := xs.length - 1) (by omega) (by rw [show xs.length - 1 + 1 = xs.length by omega]; exact h2)
    omega
theorem len_more {xs ys : List Nat} (hx : IsDig xs) (hy : IsDig ys) (hl : ys.length ≤ xs.length) (h : 4294967296 ^ xs.length ≤ num xs + num ys) : (digs (num xs + num ys)).length = xs.length + 1 := by
  refine digs_len_of h ?_
  have h1 := num_lt hx
  have h2 := num_lt hy
  have h3 := Nat.pow_le_pow_right (n := 4294967296) (by omega) hl
  rw [Nat.pow_succ]; omega
theorem sum_zero {xs ys : List Nat} (hl : ys.length ≤ xs.length) (h : xs.length = 0) : num xs + num ys = 0 := by
  have e1 : xs = [] := List.eq_nil_of_length_eq_zero h
  have e2 : ys = [] := List.eq_nil_of_length_eq_zero (by omega)
  rw [e1, e2]; rfl
theorem sumlen_or {xs ys : List Nat} (hx : IsDig xs) (hy : IsDig ys) (nx : Norm xs) (hl : ys.length ≤ xs.length) :
    ((digs (num xs + num ys)).length = xs.length ∧ num xs + num ys < 4294967296 ^ xs.length) ∨ ((digs (num xs + num ys)).length = xs.length + 1 ∧ 4294967296 ^ xs.length ≤ num xs + num ys) := by
  rcases Nat.lt_or_ge (num xs + num ys) (4294967296 ^ xs.length) with h | h
  · exact .inl ⟨len_same hx nx (sum_zero hl) (by omega) h, h⟩
  · exact .inr ⟨len_more hx hy hl h, h⟩

set_option maxRecDepth 100000 in
set_option maxHeartbeats 1000000 in
theorem sumLength_any (va vb : Value) (xs ys : List Nat) (w : World) (hx : Row w va xs) (hy : Row w vb ys) (nx : xs.length ≤ 256 ∧ Norm xs) (ny : ys.length ≤ 256 ∧ Norm ys) (hle : ys.length ≤ xs.length) :
    Calls Tryz.prog 92 #[va, vb] w fun e w' => e = .returned (.int .i64 (((digs (num xs + num ys)).length : Nat) : Int)) ∧ w = w' := by
  obtain ⟨dx, A, cA, rfl, hcx, -⟩ := hx
  obtain ⟨dy, B, cB, rfl, hcy, -⟩ := hy
  have HC := Lib.hid (And.intro hcx hcy)
  have HD := Lib.hid (And.intro dx dy)
  have HN := Lib.hid (And.intro nx ny)
  obtain ⟨S, hS⟩ : ∃ s, s = (digs (num xs + num ys)).length := ⟨_, rfl⟩
  rw [← hS]
  obtain ⟨n, hn⟩ : ∃ n, n = xs.length := ⟨_, rfl⟩
  obtain ⟨m, hm⟩ : ∃ n, n = ys.length := ⟨_, rfl⟩
  have hn1 : n ≤ 256 := by omega
  have hm1 : m ≤ n := by omega
  rw [← hn, ← hm]
  have HE := Lib.hid (And.intro hn (And.intro hm hS))
  clear hcx hcy dx dy hn hm hS nx ny hle
  go_enter Tryz.func92, Tryz.ntmps92
  go_wp2
  go_loop [5] (fun i => ∃ k : Nat, k ≤ n ∧ i = .int .i64 ((k : Int) - 1) ∧ Hid (num (xs.drop k) + num (ys.drop k) + 1 = 4294967296 ^ (n - k))) (fun i => (intOf i + 1).toNat)
  case atStart => exact ⟨n, Nat.le_refl _, by go_num, by
    show _ = _
    rw [List.drop_of_length_le (by have := HE.out.1; omega), List.drop_of_length_le (by have := HE.out.2.1; omega), Nat.sub_self]; rfl⟩
  case round =>
    obtain ⟨k, hk, rfl, hv⟩ := hrel
    rcases k with _ | j
    · have e : S = n := by
        rw [HE.out.2.2, HE.out.1]
        refine len_same HD.out.1 HN.out.1.2 (sum_zero (by have := HE.out; omega)) (by omega) ?_
        rw [← HE.out.1]
        exact sumlen_end hv.out
      subst e
      go_wp2
      go_ret
      exact ⟨rfl, rfl⟩
    · have e : ((j + 1 : Nat) : Int) - 1 = (j : Int) := by omega
      rw [e]
      clear e
      have hj : j < n := by omega
      obtain ⟨b, o, rfl, hcc⟩ := HC.out.1 (by have := HE.out; omega)
      have hcell := hcc j (by have := HE.out; omega)
      have hx1 := getD_lt HD.out.1 j
      have hy1 := getD_lt HD.out.2 j
      have hstep := fun h => sumlen_step hj hv.out h
      have hlow : xs.getD j 0 + ys.getD j 0 < 4294967295 → S = n := fun h => by
        rw [HE.out.2.2, HE.out.1]
        refine len_same HD.out.1 HN.out.1.2 (sum_zero (by have := HE.out; omega)) (by omega) ?_
        rw [← HE.out.1]
        exact sumlen_low HD.out.1 HD.out.2 hj hv.out h
      have hhigh : 4294967296 ≤ xs.getD j 0 + ys.getD j 0 → S = n + 1 := fun h => by
        rw [HE.out.2.2, HE.out.1]
        refine len_more HD.out.1 HD.out.2 (by have := HE.out; omega) ?_
        rw [← HE.out.1]
        exact sumlen_high HD.out.1 HD.out.2 hj hv.out h
      have hy0 : m ≤ j → ys.getD j 0 = 0 := fun h => getD_ge (by have := HE.out; omega)
      have hcy : j < m → ∃ b o, B = some ⟨b, o, none⟩ ∧ w.cell? ⟨b, o + j, none⟩ = some (.int .u32 ((ys.getD j 0 : Nat) : Int)) := fun h => by
        obtain ⟨b, o, e, hcc⟩ := HC.out.2 (by have := HE.out; omega)
        exact ⟨b, o, e, hcc j (by have := HE.out; omega)⟩
      obtain ⟨x, hx⟩ : ∃ d, d = xs.getD j 0 := ⟨_, rfl⟩
      obtain ⟨y, hy⟩ : ∃ d, d = ys.getD j 0 := ⟨_, rfl⟩
      rw [← hx] at hcell hx1 hstep hlow hhigh
      rw [← hy] at hcy hy1 hstep hlow hhigh hy0
      obtain ⟨s, hs⟩ : ∃ s, s = (x + y) % 4294967296 := ⟨_, rfl⟩
      obtain ⟨t, ht⟩ : ∃ s, s = (x + y) / 4294967296 := ⟨_, rfl⟩
      have HA := Lib.hid fun W => Bits.add32z x y s t W hx1 hy1 hs ht
      have HST := Lib.hid hstep
      clear hcc hx hy hstep
      by_cases hjm : j < m
      · obtain ⟨b2, o2, rfl, hcell2⟩ := hcy hjm
        clear hcy hy0
        rcases (show x + y = 4294967295 ∨ x + y < 4294967295 ∨ 4294967296 ≤ x + y by omega) with h | h | h
        · have es : ((s : Int) != 4294967295) = false := by simp; omega
          have HH := Lib.hid (HST.out h)
          clear hs ht hlow hhigh h
          go_wp2_with (go_at_call 93; (with_reducible refine (HA.out _).mono ?_); rintro e w1 ⟨rfl, rfl⟩)
          go_round
          case rel => exact ⟨j, by omega, rfl, HH.out⟩
          case measure => simp [intOf]
        · have es : ((s : Int) != 4294967295) = true := by simp; omega
          have e : S = n := hlow h
          have et : t = 0 := by omega
          subst e et
          clear hs ht hlow hhigh h
          go_wp2_with (go_at_call 93; (with_reducible refine (HA.out _).mono ?_); rintro e w1 ⟨rfl, rfl⟩)
          go_ret
          exact ⟨rfl, rfl⟩
        · have es : ((s : Int) != 4294967295) = true := by simp; omega
          have e : S = n + 1 := hhigh h
          have et : t = 1 := by omega
          subst e et
          clear hs ht hlow hhigh h
          go_wp2_with (go_at_call 93; (with_reducible refine (HA.out _).mono ?_); rintro e w1 ⟨rfl, rfl⟩)
          go_ret
          exact ⟨rfl, rfl⟩
      · have hjm2 : m ≤ j := by omega
        have ey : y = 0 := hy0 hjm2
        subst ey
        have HA2 := Lib.hid fun W => Bits.add32zz x s t W hx1 hs ht
        clear hcy hy0 hjm HA
        rcases (show x + 0 = 4294967295 ∨ x + 0 < 4294967295 by omega) with h | h
        · have es : ((s : Int) != 4294967295) = false := by simp; omega
          have HH := Lib.hid (HST.out h)
          clear hs ht hlow hhigh h
          go_wp2_with (go_at_call 93; (with_reducible refine (HA2.out _).mono ?_); rintro e w1 ⟨rfl, rfl⟩)
          go_round
          case rel => exact ⟨j, by omega, rfl, HH.out⟩
          case measure => simp [intOf]
        · have es : ((s : Int) != 4294967295) = true := by simp; omega
          have e : S = n := hlow h
          have et : t = 0 := by omega
          subst e et
          clear hs ht hlow hhigh h
          go_wp2_with (go_at_call 93; (with_reducible refine (HA2.out _).mono ?_); rintro e w1 ⟨rfl, rfl⟩)
          go_ret
          exact ⟨rfl, rfl⟩

set_option maxRecDepth 100000 in
set_option maxHeartbeats 4000000 in
theorem add_long (vx vy : Value) (xs ys : List Nat) (w : World) (hx : Row w vx xs) (hy : Row w vy ys) (rx : rightB xs = true) (ry : rightB ys = true) (hle : ys.length ≤ xs.length) :
    Calls Tryz.prog 71 #[vx, vy] w (RetRowErr (fitD (num xs + num ys)).1 (fitD (num xs + num ys)).2 w) := by
  have HX := Lib.hid hx
  have HY := Lib.hid hy
  have nx := right_norm rx
  have ny := right_norm ry
  obtain ⟨dx, A, cA, rfl, hcx, -⟩ := hx
  obtain ⟨dy, B, cB, rfl, hcy, -⟩ := hy
  have HC := Lib.hid (And.intro hcx hcy)
  have HD := Lib.hid (And.intro dx dy)
  have HR := Lib.hid (And.intro rx ry)
  have hslen := sumlen_or dx dy nx.2 (by omega : ys.length ≤ xs.length)
  have HNM := Lib.hid (And.intro nx ny)
  obtain ⟨S, hS⟩ : ∃ s, s = (digs (num xs + num ys)).length := ⟨_, rfl⟩
  rw [← hS] at hslen
  obtain ⟨n, hn⟩ : ∃ n, n = xs.length := ⟨_, rfl⟩
  obtain ⟨m, hm⟩ : ∃ n, n = ys.length := ⟨_, rfl⟩
  have hn1 : n ≤ 256 := by omega
  have hm1 : m ≤ n := by omega
  rw [← hn] at hle HX hslen ⊢
  rw [← hm] at hle HY ⊢
  have hSn : n ≤ S := by omega
  have hSn1 : S ≤ n + 1 := by omega
  have HN := Lib.hid (And.intro hn (And.intro hm (And.intro hS hslen)))
  clear hcx hcy dx dy nx ny hn hm hS rx ry hslen
  by_cases hbig : 256 < S
  · have e : fitD (num xs + num ys) = ([], 3) := by rw [fitD, if_neg (by have := HN.out.2.2.1; omega)]
    rw [e]
    clear e
    go_enter Tryz.func71, Tryz.ntmps71
    go_wp2_with (first
      | (go_at_call 88; (with_reducible refine (right_yes (.slice A n cA) xs _ HX.out (by have := HN.out; omega)).mono ?_); rw [HR.out.1]; rintro e w1 ⟨rfl, rfl⟩)
      | (go_at_call 88; (with_reducible refine (right_yes (.slice B m cB) ys _ HY.out (by have := HN.out; omega)).mono ?_); rw [HR.out.2]; rintro e w1 ⟨rfl, rfl⟩)
      | (go_at_call 92; (with_reducible refine (sumLength_any (.slice A n cA) (.slice B m cB) xs ys _ HX.out HY.out HNM.out.1 HNM.out.2 (by have := HN.out; omega)).mono ?_); rw [← HN.out.2.2.1]; rintro e w1 ⟨rfl, rfl⟩))
    go_ret2
    exact ⟨_, rfl, Row.nil _, Since.refl _⟩
  · have e : fitD (num xs + num ys) = (digs (num xs + num ys), 0) := by rw [fitD, if_pos (by have := HN.out.2.2.1; omega)]
    rw [e]
    clear e
    have hS256 : S ≤ 256 := by omega
    have hmk := make_digits S (by omega)
    clear hbig
    go_enter Tryz.func71, Tryz.ntmps71
    go_wp2_with (first
      | (go_at_call 88; (with_reducible refine (right_yes (.slice A n cA) xs _ HX.out (by have := HN.out; omega)).mono ?_); rw [HR.out.1]; rintro e w1 ⟨rfl, rfl⟩)
      | (go_at_call 88; (with_reducible refine (right_yes (.slice B m cB) ys _ HY.out (by have := HN.out; omega)).mono ?_); rw [HR.out.2]; rintro e w1 ⟨rfl, rfl⟩)
      | (go_at_call 92; (with_reducible refine (sumLength_any (.slice A n cA) (.slice B m cB) xs ys _ HX.out HY.out HNM.out.1 HNM.out.2 (by have := HN.out; omega)).mono ?_); rw [← HN.out.2.2.1]; rintro e w1 ⟨rfl, rfl⟩))
    go_loopw [8, 35] (fun c i wr => ∃ (k t : Nat) (outs : List Nat), k ≤ m ∧ i = .int .i64 k ∧ c = .int .u32 t ∧ t ≤ 1 ∧ Hid (outs.length = k ∧ IsDig outs ∧ num outs + 4294967296 ^ k * t = num (xs.take k) + num (ys.take k)) ∧ Hid (Blk wr w.heap.size (splice (List.replicate S 0) 0 outs)) ∧ Since w wr) (fun _ i _ => m - (intOf i).toNat)
    case atStart => exact ⟨0, 0, [], by omega, rfl, rfl, by omega, ⟨rfl, isDig_nil, by simp [num]⟩, by rw [splice_nil]; exact Blk.made w S, since_made w _ _⟩
    case round =>
      obtain ⟨k, t, outs, hk, rfl, rfl, ht, ho, hb, hw⟩ := hrel
      by_cases hlt : k < m
      · have hjx : k < xs.length := by have := HN.out; omega
        have hjy : k < ys.length := by have := HN.out; omega
        obtain ⟨b, o, rfl, hcc⟩ := HC.out.1 (by omega)
        obtain ⟨b2, o2, rfl, hcc2⟩ := HC.out.2 (by omega)
        have hcell := (Below.cell hw (World.block_lt_of_cell? _ _ (hcc k hjx))).trans (hcc k hjx)
        have hcell2 := (Below.cell hw (World.block_lt_of_cell? _ _ (hcc2 k hjy))).trans (hcc2 k hjy)
        have hx1 := getD_lt HD.out.1 k
        have hy1 := getD_lt HD.out.2 k
        have hstep := plus_step ho.out.1 ho.out.2.2
        obtain ⟨x, hx⟩ : ∃ d, d = xs.getD k 0 := ⟨_, rfl⟩
        obtain ⟨y, hy⟩ : ∃ d, d = ys.getD k 0 := ⟨_, rfl⟩
        rw [← hx] at hcell hx1 hstep
        rw [← hy] at hcell2 hy1 hstep
        obtain ⟨s, hs⟩ : ∃ s, s = (x + y + t) % 4294967296 := ⟨_, rfl⟩
        obtain ⟨t2, ht2⟩ : ∃ s, s = (x + y + t) / 4294967296 := ⟨_, rfl⟩
        have HA := Lib.hid fun W => Bits.add32 x y t s t2 W hx1 hy1 (by omega) hs ht2
        rw [← hs, ← ht2] at hstep
        have hs1 : s < 4294967296 := by omega
        have ht21 : t2 ≤ 1 := by omega
        have hlen : (splice (List.replicate S 0) 0 outs).length = S := by rw [splice_len (by simp; have := ho.out.1; omega)]; simp
        have g1 := hb.out.cell (i := k) (by omega)
        have g2 := hb.out.frozen k
        have hset := hb.out.set (i := k) (d := s) (by omega) hs1
        have e1 := splice_set (ds := List.replicate S 0) (o := 0) (d := s) (outs := outs) (by simp; have := ho.out.1; omega)
        rw [ho.out.1, Nat.zero_add] at e1
        rw [e1] at hset
        obtain ⟨z, hz⟩ : ∃ d, d = (splice (List.replicate S 0) 0 outs).getD k 0 := ⟨_, rfl⟩
        rw [← hz] at g1
        have HS := Lib.hid (And.intro hstep hset)
        have hb1 : b ≠ w.heap.size := by have := World.block_lt_of_cell? _ _ (hcc k hjx); simp at this; omega
        have hb2 : b2 ≠ w.heap.size := by have := World.block_lt_of_cell? _ _ (hcc2 k hjy); simp at this; omega
        clear hcc hcc2 hx hy hs ht2 hstep hlen hset e1 hz hjx hjy
        have i1 : (0 : Int) ≤ (k : Int) := by omega
        have i2 : (k : Int) < (n : Int) := by omega
        have i3 : (k : Int) < (m : Int) := by omega
        have i4 : (k : Int) < (S : Int) := by omega
        go_wp2
        go_region_held3 (fun W => W.cell? ⟨b, o + k, none⟩ = some (.int .u32 (x : Int)) ∧ W.cell? ⟨b2, o2 + k, none⟩ = some (.int .u32 (y : Int)))
          (first | exact ⟨hcell, hcell2⟩ | exact ⟨cell_far hcell hb1 _, cell_far hcell2 hb2 _⟩)
          (first | (go_at_call 93; (with_reducible refine (HA.out _).mono ?_); rintro e w1 ⟨rfl, rfl⟩))
        all_goals
          go_wp2
          go_roundw
          case rel => exact ⟨k + 1, t2, outs ++ [s], by omega, by go_num, rfl, ht21, ⟨by rw [List.length_append, ho.out.1]; rfl, isDig_snoc ho.out.2.1 hs1, HS.out.1⟩, HS.out.2, Since.drew (Since.set hw (Nat.le_refl _) _)⟩
          case measure => simp [intOf]; omega
      · obtain rfl : k = m := by omega
        have HB := Lib.hid (And.intro hb.out hw)
        have HO := Lib.hid ho.out
        clear hb hw ho
        go_wp2
        go_loopw [8, 10] (fun c i wr => ∃ (k2 t : Nat) (outs : List Nat), k ≤ k2 ∧ k2 ≤ n ∧ i = .int .i64 k2 ∧ c = .int .u32 t ∧ t ≤ 1 ∧ Hid (outs.length = k2 ∧ IsDig outs ∧ num outs + 4294967296 ^ k2 * t = num (xs.take k2) + num (ys.take k2)) ∧ Hid (Blk wr w.heap.size (splice (List.replicate S 0) 0 outs)) ∧ Since w wr) (fun _ i _ => n - (intOf i).toNat)
        case atStart => exact ⟨k, t, outs, Nat.le_refl _, hm1, rfl, rfl, ht, HO.out, HB.out.1, HB.out.2⟩
        case round =>
          clear HB HO ht
          obtain ⟨k2, t, outs, hk1, hk2, rfl, rfl, ht, ho, hb, hw⟩ := hrel
          by_cases hlt2 : k2 < n
          · have hjx : k2 < xs.length := by have := HN.out; omega
            obtain ⟨b, o, rfl, hcc⟩ := HC.out.1 (by omega)
            have hcell := (Below.cell hw (World.block_lt_of_cell? _ _ (hcc k2 hjx))).trans (hcc k2 hjx)
            have hx1 := getD_lt HD.out.1 k2
            have hstep := plus_step ho.out.1 ho.out.2.2
            have hy0 : ys.getD k2 0 = 0 := getD_ge (by have := HN.out; omega)
            rw [hy0, Nat.add_zero] at hstep
            obtain ⟨x, hx⟩ : ∃ d, d = xs.getD k2 0 := ⟨_, rfl⟩
            rw [← hx] at hcell hx1 hstep
            obtain ⟨s, hs⟩ : ∃ s, s = (x + t) % 4294967296 := ⟨_, rfl⟩
            obtain ⟨t2, ht2⟩ : ∃ s, s = (x + t) / 4294967296 := ⟨_, rfl⟩
            have HA := Lib.hid fun W => Bits.add32m x t s t2 W hx1 (by omega) hs ht2
            rw [← hs, ← ht2] at hstep
            have hs1 : s < 4294967296 := by omega
            have ht21 : t2 ≤ 1 := by omega
            have hlen : (splice (List.replicate S 0) 0 outs).length = S := by rw [splice_len (by simp; have := ho.out.1; omega)]; simp
            have g1 := hb.out.cell (i := k2) (by omega)
            have g2 := hb.out.frozen k2
            have hset := hb.out.set (i := k2) (d := s) (by omega) hs1
            have e1 := splice_set (ds := List.replicate S 0) (o := 0) (d := s) (outs := outs) (by simp; have := ho.out.1; omega)
            rw [ho.out.1, Nat.zero_add] at e1
            rw [e1] at hset
            obtain ⟨z, hz⟩ : ∃ d, d = (splice (List.replicate S 0) 0 outs).getD k2 0 := ⟨_, rfl⟩
            rw [← hz] at g1
            have HS := Lib.hid (And.intro hstep hset)
            clear hcc hx hy0 hs ht2 hstep hlen hset e1 hz hjx
            go_wp2_with (go_at_call 93; (with_reducible refine (HA.out _).mono ?_); rintro e w1 ⟨rfl, rfl⟩)
            go_roundw
            case rel => exact ⟨k2 + 1, t2, outs ++ [s], by omega, by omega, by go_num, rfl, ht21, ⟨by rw [List.length_append, ho.out.1]; rfl, isDig_snoc ho.out.2.1 hs1, HS.out.1⟩, HS.out.2, hw.set (Nat.le_refl _) _⟩
            case measure => simp [intOf]; omega
          · obtain rfl : k2 = n := by omega
            have hv := ho.out.2.2
            rw [List.take_of_length_le (by have := HN.out; omega), List.take_of_length_le (by have := HN.out; omega)] at hv
            have hlO := ho.out.1
            have hdO := ho.out.2.1
            have hpow := num_lt hdO
            rw [hlO] at hpow
            by_cases hS2 : k2 < S
            · have eS : S = k2 + 1 := by omega
              have hge : 4294967296 ^ k2 ≤ num xs + num ys := by
                have h1 := HN.out.1
                have h2 := HN.out.2.2.2
                rcases h2 with h2 | h2
                · omega
                · exact h2.2
              have et : t = 1 := by
                rcases (show t = 0 ∨ t = 1 by omega) with rfl | rfl
                · exfalso; rw [Nat.mul_zero] at hv; omega
                · rfl
              have hlen : (splice (List.replicate S 0) 0 outs).length = S := by rw [splice_len (by simp; omega)]; simp
              have g1 := hb.out.cell (i := k2) (by omega)
              have g2 := hb.out.frozen k2
              have hset := hb.out.set (i := k2) (d := t) (by omega) (by omega)
              have e1 := splice_set (ds := List.replicate S 0) (o := 0) (d := t) (outs := outs) (by simp; omega)
              rw [hlO, Nat.zero_add] at e1
              rw [e1, splice_zero_end (by simp; omega)] at hset
              have ed : digs (num xs + num ys) = outs ++ [t] := by
                have := num_snoc outs t
                rw [hlO, hv] at this
                rw [← this]
                refine digs_of_ge (isDig_snoc hdO (by omega)) ?_
                rw [this]
                simpa [hlO] using hge
              obtain ⟨z, hz⟩ : ∃ d, d = (splice (List.replicate S 0) 0 outs).getD k2 0 := ⟨_, rfl⟩
              rw [← hz] at g1
              have HS := Lib.hid (And.intro ed (And.intro hset (show (outs ++ [t]).length = S by simp; omega)))
              clear hv hlO hdO hpow hge hlen hset e1 ed hz et
              subst eS
              go_wp2
              go_ret2
              exact ⟨_, rfl, by rw [HS.out.1]; exact HS.out.2.1.row_all HS.out.2.2 (Nat.le_refl _), hw.set (Nat.le_refl _) _⟩
            · have eS : S = k2 := by omega
              have hlo : num xs + num ys < 4294967296 ^ k2 := by
                have h1 := HN.out.1
                have h2 := HN.out.2.2.2
                rcases h2 with h2 | h2
                · exact h2.2
                · omega
              have et : t = 0 := by
                rcases (show t = 0 ∨ t = 1 by omega) with rfl | rfl
                · rfl
                · exfalso; rw [Nat.mul_one] at hv; omega
              subst et
              rw [Nat.mul_zero, Nat.add_zero] at hv
              have ed : digs (num xs + num ys) = outs := by
                have hS := HN.out.2.2.1
                rw [← hv] at hS ⊢
                have e3 := take_sig hdO
                rw [show sig outs = outs.length by show (digs (num outs)).length = _; omega, List.take_length] at e3
                exact e3
              have hb2 := hb.out
              rw [splice_zero_end (by omega)] at hb2
              have HS := Lib.hid (And.intro ed (And.intro hb2 (show outs.length = S by omega)))
              clear hv hlO hdO hpow hlo ed hb2
              subst eS
              go_wp2
              go_ret2
              exact ⟨_, rfl, by rw [HS.out.1]; exact HS.out.2.1.row_all HS.out.2.2 (Nat.le_refl _), hw⟩

set_option maxRecDepth 100000 in
set_option maxHeartbeats 4000000 in
theorem add_short (vx vy : Value) (xs ys : List Nat) (w : World) (hx : Row w vx xs) (hy : Row w vy ys) (rx : rightB xs = true) (ry : rightB ys = true) (hle : ys.length < xs.length) :
    Calls Tryz.prog 71 #[vy, vx] w (RetRowErr (fitD (num xs + num ys)).1 (fitD (num xs + num ys)).2 w) := by
  have HX := Lib.hid hx
  have HY := Lib.hid hy
  have nx := right_norm rx
  have ny := right_norm ry
  obtain ⟨dx, A, cA, rfl, hcx, -⟩ := hx
  obtain ⟨dy, B, cB, rfl, hcy, -⟩ := hy
  have HC := Lib.hid (And.intro hcx hcy)
  have HD := Lib.hid (And.intro dx dy)
  have HR := Lib.hid (And.intro rx ry)
  have hslen := sumlen_or dx dy nx.2 (by omega : ys.length ≤ xs.length)
  have HNM := Lib.hid (And.intro nx ny)
  obtain ⟨S, hS⟩ : ∃ s, s = (digs (num xs + num ys)).length := ⟨_, rfl⟩
  rw [← hS] at hslen
  obtain ⟨n, hn⟩ : ∃ n, n = xs.length := ⟨_, rfl⟩
  obtain ⟨m, hm⟩ : ∃ n, n = ys.length := ⟨_, rfl⟩
  have hn1 : n ≤ 256 := by omega
  have hm1 : m ≤ n := by omega
  rw [← hn] at hle HX hslen ⊢
  rw [← hm] at hle HY ⊢
  have hSn : n ≤ S := by omega
  have hSn1 : S ≤ n + 1 := by omega
  have HN := Lib.hid (And.intro hn (And.intro hm (And.intro hS hslen)))
  clear hcx hcy dx dy nx ny hn hm hS rx ry hslen
  by_cases hbig : 256 < S
  · have e : fitD (num xs + num ys) = ([], 3) := by rw [fitD, if_neg (by have := HN.out.2.2.1; omega)]
    rw [e]
    clear e
    go_enter Tryz.func71, Tryz.ntmps71
    go_wp2_with (first
      | (go_at_call 88; (with_reducible refine (right_yes (.slice A n cA) xs _ HX.out (by have := HN.out; omega)).mono ?_); rw [HR.out.1]; rintro e w1 ⟨rfl, rfl⟩)
      | (go_at_call 88; (with_reducible refine (right_yes (.slice B m cB) ys _ HY.out (by have := HN.out; omega)).mono ?_); rw [HR.out.2]; rintro e w1 ⟨rfl, rfl⟩)
      | (go_at_call 92; (with_reducible refine (sumLength_any (.slice A n cA) (.slice B m cB) xs ys _ HX.out HY.out HNM.out.1 HNM.out.2 (by have := HN.out; omega)).mono ?_); rw [← HN.out.2.2.1]; rintro e w1 ⟨rfl, rfl⟩))
    go_ret2
    exact ⟨_, rfl, Row.nil _, Since.refl _⟩
  · have e : fitD (num xs + num ys) = (digs (num xs + num ys), 0) := by rw [fitD, if_pos (by have := HN.out.2.2.1; omega)]
    rw [e]
    clear e
    have hS256 : S ≤ 256 := by omega
    have hmk := make_digits S (by omega)
    clear hbig
    go_enter Tryz.func71, Tryz.ntmps71
    go_wp2_with (first
      | (go_at_call 88; (with_reducible refine (right_yes (.slice A n cA) xs _ HX.out (by have := HN.out; omega)).mono ?_); rw [HR.out.1]; rintro e w1 ⟨rfl, rfl⟩)
      | (go_at_call 88; (with_reducible refine (right_yes (.slice B m cB) ys _ HY.out (by have := HN.out; omega)).mono ?_); rw [HR.out.2]; rintro e w1 ⟨rfl, rfl⟩)
      | (go_at_call 92; (with_reducible refine (sumLength_any (.slice A n cA) (.slice B m cB) xs ys _ HX.out HY.out HNM.out.1 HNM.out.2 (by have := HN.out; omega)).mono ?_); rw [← HN.out.2.2.1]; rintro e w1 ⟨rfl, rfl⟩))
    go_loopw [8, 35] (fun c i wr => ∃ (k t : Nat) (outs : List Nat), k ≤ m ∧ i = .int .i64 k ∧ c = .int .u32 t ∧ t ≤ 1 ∧ Hid (outs.length = k ∧ IsDig outs ∧ num outs + 4294967296 ^ k * t = num (xs.take k) + num (ys.take k)) ∧ Hid (Blk wr w.heap.size (splice (List.replicate S 0) 0 outs)) ∧ Since w wr) (fun _ i _ => m - (intOf i).toNat)
    case atStart => exact ⟨0, 0, [], by omega, rfl, rfl, by omega, ⟨rfl, isDig_nil, by simp [num]⟩, by rw [splice_nil]; exact Blk.made w S, since_made w _ _⟩
    case round =>
      obtain ⟨k, t, outs, hk, rfl, rfl, ht, ho, hb, hw⟩ := hrel
      by_cases hlt : k < m
      · have hjx : k < xs.length := by have := HN.out; omega
        have hjy : k < ys.length := by have := HN.out; omega
        obtain ⟨b, o, rfl, hcc⟩ := HC.out.1 (by omega)
        obtain ⟨b2, o2, rfl, hcc2⟩ := HC.out.2 (by omega)
        have hcell := (Below.cell hw (World.block_lt_of_cell? _ _ (hcc k hjx))).trans (hcc k hjx)
        have hcell2 := (Below.cell hw (World.block_lt_of_cell? _ _ (hcc2 k hjy))).trans (hcc2 k hjy)
        have hx1 := getD_lt HD.out.1 k
        have hy1 := getD_lt HD.out.2 k
        have hstep := plus_step ho.out.1 ho.out.2.2
        obtain ⟨x, hx⟩ : ∃ d, d = xs.getD k 0 := ⟨_, rfl⟩
        obtain ⟨y, hy⟩ : ∃ d, d = ys.getD k 0 := ⟨_, rfl⟩
        rw [← hx] at hcell hx1 hstep
        rw [← hy] at hcell2 hy1 hstep
        obtain ⟨s, hs⟩ : ∃ s, s = (x + y + t) % 4294967296 := ⟨_, rfl⟩
        obtain ⟨t2, ht2⟩ : ∃ s, s = (x + y + t) / 4294967296 := ⟨_, rfl⟩
        have HA := Lib.hid fun W => Bits.add32 x y t s t2 W hx1 hy1 (by omega) hs ht2
        rw [← hs, ← ht2] at hstep
        have hs1 : s < 4294967296 := by omega
        have ht21 : t2 ≤ 1 := by omega
        have hlen : (splice (List.replicate S 0) 0 outs).length = S := by rw [splice_len (by simp; have := ho.out.1; omega)]; simp
        have g1 := hb.out.cell (i := k) (by omega)
        have g2 := hb.out.frozen k
        have hset := hb.out.set (i := k) (d := s) (by omega) hs1
        have e1 := splice_set (ds := List.replicate S 0) (o := 0) (d := s) (outs := outs) (by simp; have := ho.out.1; omega)
        rw [ho.out.1, Nat.zero_add] at e1
        rw [e1] at hset
        obtain ⟨z, hz⟩ : ∃ d, d = (splice (List.replicate S 0) 0 outs).getD k 0 := ⟨_, rfl⟩
        rw [← hz] at g1
        have HS := Lib.hid (And.intro hstep hset)
        have hb1 : b ≠ w.heap.size := by have := World.block_lt_of_cell? _ _ (hcc k hjx); simp at this; omega
        have hb2 : b2 ≠ w.heap.size := by have := World.block_lt_of_cell? _ _ (hcc2 k hjy); simp at this; omega
        clear hcc hcc2 hx hy hs ht2 hstep hlen hset e1 hz hjx hjy
        have i1 : (0 : Int) ≤ (k : Int) := by omega
        have i2 : (k : Int) < (n : Int) := by omega
        have i3 : (k : Int) < (m : Int) := by omega
        have i4 : (k : Int) < (S : Int) := by omega
        go_wp2
        go_region_held3 (fun W => W.cell? ⟨b, o + k, none⟩ = some (.int .u32 (x : Int)) ∧ W.cell? ⟨b2, o2 + k, none⟩ = some (.int .u32 (y : Int)))
          (first | exact ⟨hcell, hcell2⟩ | exact ⟨cell_far hcell hb1 _, cell_far hcell2 hb2 _⟩)
          (first | (go_at_call 93; (with_reducible refine (HA.out _).mono ?_); rintro e w1 ⟨rfl, rfl⟩))
        all_goals
          go_wp2
          go_roundw
          case rel => exact ⟨k + 1, t2, outs ++ [s], by omega, by go_num, rfl, ht21, ⟨by rw [List.length_append, ho.out.1]; rfl, isDig_snoc ho.out.2.1 hs1, HS.out.1⟩, HS.out.2, Since.drew (Since.set hw (Nat.le_refl _) _)⟩
          case measure => simp [intOf]; omega
      · obtain rfl : k = m := by omega
        have HB := Lib.hid (And.intro hb.out hw)
        have HO := Lib.hid ho.out
        clear hb hw ho
        go_wp2
        go_loopw [8, 10] (fun c i wr => ∃ (k2 t : Nat) (outs : List Nat), k ≤ k2 ∧ k2 ≤ n ∧ i = .int .i64 k2 ∧ c = .int .u32 t ∧ t ≤ 1 ∧ Hid (outs.length = k2 ∧ IsDig outs ∧ num outs + 4294967296 ^ k2 * t = num (xs.take k2) + num (ys.take k2)) ∧ Hid (Blk wr w.heap.size (splice (List.replicate S 0) 0 outs)) ∧ Since w wr) (fun _ i _ => n - (intOf i).toNat)
        case atStart => exact ⟨k, t, outs, Nat.le_refl _, hm1, rfl, rfl, ht, HO.out, HB.out.1, HB.out.2⟩
        case round =>
          clear HB HO ht
          obtain ⟨k2, t, outs, hk1, hk2, rfl, rfl, ht, ho, hb, hw⟩ := hrel
          by_cases hlt2 : k2 < n
          · have hjx : k2 < xs.length := by have := HN.out; omega
            obtain ⟨b, o, rfl, hcc⟩ := HC.out.1 (by omega)
            have hcell := (Below.cell hw (World.block_lt_of_cell? _ _ (hcc k2 hjx))).trans (hcc k2 hjx)
            have hx1 := getD_lt HD.out.1 k2
            have hstep := plus_step ho.out.1 ho.out.2.2
            have hy0 : ys.getD k2 0 = 0 := getD_ge (by have := HN.out; omega)
            rw [hy0, Nat.add_zero] at hstep
            obtain ⟨x, hx⟩ : ∃ d, d = xs.getD k2 0 := ⟨_, rfl⟩
            rw [← hx] at hcell hx1 hstep
            obtain ⟨s, hs⟩ : ∃ s, s = (x + t) % 4294967296 := ⟨_, rfl⟩
            obtain ⟨t2, ht2⟩ : ∃ s, s = (x + t) / 4294967296 := ⟨_, rfl⟩
            have HA := Lib.hid fun W => Bits.add32m x t s t2 W hx1 (by omega) hs ht2
            rw [← hs, ← ht2] at hstep
            have hs1 : s < 4294967296 := by omega
            have ht21 : t2 ≤ 1 := by omega
            have hlen : (splice (List.replicate S 0) 0 outs).length = S := by rw [splice_len (by simp; have := ho.out.1; omega)]; simp
            have g1 := hb.out.cell (i := k2) (by omega)
            have g2 := hb.out.frozen k2
            have hset := hb.out.set (i := k2) (d := s) (by omega) hs1
            have e1 := splice_set (ds := List.replicate S 0) (o := 0) (d := s) (outs := outs) (by simp; have := ho.out.1; omega)
            rw [ho.out.1, Nat.zero_add] at e1
            rw [e1] at hset
            obtain ⟨z, hz⟩ : ∃ d, d = (splice (List.replicate S 0) 0 outs).getD k2 0 := ⟨_, rfl⟩
            rw [← hz] at g1
            have HS := Lib.hid (And.intro hstep hset)
            clear hcc hx hy0 hs ht2 hstep hlen hset e1 hz hjx
            go_wp2_with (go_at_call 93; (with_reducible refine (HA.out _).mono ?_); rintro e w1 ⟨rfl, rfl⟩)
            go_roundw
            case rel => exact ⟨k2 + 1, t2, outs ++ [s], by omega, by omega, by go_num, rfl, ht21, ⟨by rw [List.length_append, ho.out.1]; rfl, isDig_snoc ho.out.2.1 hs1, HS.out.1⟩, HS.out.2, hw.set (Nat.le_refl _) _⟩
            case measure => simp [intOf]; omega
          · obtain rfl : k2 = n := by omega
            have hv := ho.out.2.2
            rw [List.take_of_length_le (by have := HN.out; omega), List.take_of_length_le (by have := HN.out; omega)] at hv
            have hlO := ho.out.1
            have hdO := ho.out.2.1
            have hpow := num_lt hdO
            rw [hlO] at hpow
            by_cases hS2 : k2 < S
            · have eS : S = k2 + 1 := by omega
              have hge : 4294967296 ^ k2 ≤ num xs + num ys := by
                have h1 := HN.out.1
                have h2 := HN.out.2.2.2
                rcases h2 with h2 | h2
                · omega
                · exact h2.2
              have et : t = 1 := by
                rcases (show t = 0 ∨ t = 1 by omega) with rfl | rfl
                · exfalso; rw [Nat.mul_zero] at hv; omega
                · rfl
              have hlen : (splice (List.replicate S 0) 0 outs).length = S := by rw [splice_len (by simp; omega)]; simp
              have g1 := hb.out.cell (i := k2) (by omega)
              have g2 := hb.out.frozen k2
              have hset := hb.out.set (i := k2) (d := t) (by omega) (by omega)
              have e1 := splice_set (ds := List.replicate S 0) (o := 0) (d := t) (outs := outs) (by simp; omega)
              rw [hlO, Nat.zero_add] at e1
              rw [e1, splice_zero_end (by simp; omega)] at hset
              have ed : digs (num xs + num ys) = outs ++ [t] := by
                have := num_snoc outs t
                rw [hlO, hv] at this
                rw [← this]
                refine digs_of_ge (isDig_snoc hdO (by omega)) ?_
                rw [this]
                simpa [hlO] using hge
              obtain ⟨z, hz⟩ : ∃ d, d = (splice (List.replicate S 0) 0 outs).getD k2 0 := ⟨_, rfl⟩
              rw [← hz] at g1
              have HS := Lib.hid (And.intro ed (And.intro hset (show (outs ++ [t]).length = S by simp; omega)))
              clear hv hlO hdO hpow hge hlen hset e1 ed hz et
              subst eS
              go_wp2
              go_ret2
              exact ⟨_, rfl, by rw [HS.out.1]; exact HS.out.2.1.row_all HS.out.2.2 (Nat.le_refl _), hw.set (Nat.le_refl _) _⟩
            · have eS : S = k2 := by omega
              have hlo : num xs + num ys < 4294967296 ^ k2 := by
                have h1 := HN.out.1
                have h2 := HN.out.2.2.2
                rcases h2 with h2 | h2
                · exact h2.2
                · omega
              have et : t = 0 := by
                rcases (show t = 0 ∨ t = 1 by omega) with rfl | rfl
                · rfl
                · exfalso; rw [Nat.mul_one] at hv; omega
              subst et
              rw [Nat.mul_zero, Nat.add_zero] at hv
              have ed : digs (num xs + num ys) = outs := by
                have hS := HN.out.2.2.1
                rw [← hv] at hS ⊢
                have e3 := take_sig hdO
                rw [show sig outs = outs.length by show (digs (num outs)).length = _; omega, List.take_length] at e3
                exact e3
              have hb2 := hb.out
              rw [splice_zero_end (by omega)] at hb2
              have HS := Lib.hid (And.intro ed (And.intro hb2 (show outs.length = S by omega)))
              clear hv hlO hdO hpow hlo ed hb2
              subst eS
              go_wp2
              go_ret2
              exact ⟨_, rfl, by rw [HS.out.1]; exact HS.out.2.1.row_all HS.out.2.2 (Nat.le_refl _), hw⟩

theorem add_any (va vb : Value) (xs ys : List Nat) (w : World) (hx : Row w va xs) (hy : Row w vb ys) (lx : xs.length ≤ 10000) (ly : ys.length ≤ 10000) :
    Calls Tryz.prog 71 #[va, vb] w (RetRowErr (addD xs ys).1 (addD xs ys).2 w) := by
  by_cases r1 : rightB xs = true
  · by_cases r2 : rightB ys = true
    · rw [addD, if_pos ⟨r1, r2⟩]
      rcases Nat.lt_or_ge xs.length ys.length with h | h
      · rw [Nat.add_comm]
        exact add_short vb va ys xs w hy hx r2 r1 h
      · exact add_long va vb xs ys w hx hy r1 r2 h
    · have r2' : rightB ys = false := by simpa using r2
      rw [addD, if_neg (fun h => r2 h.2)]
      have H := Lib.hid (And.intro hx hy)
      clear r2 hx hy
      go_enter Tryz.func71, Tryz.ntmps71
      go_wp2_with (first
        | (go_at_call 88; (with_reducible refine (right_yes va xs _ H.out.1 lx).mono ?_); rintro e w1 ⟨rfl, rfl⟩)
        | (go_at_call 88; (with_reducible refine (right_yes vb ys _ H.out.2 ly).mono ?_); rintro e w1 ⟨rfl, rfl⟩))
      go_ret2
      exact ⟨_, rfl, Row.nil _, Since.refl _⟩
  · have r1' : rightB xs = false := by simpa using r1
    rw [addD, if_neg (fun h => r1 h.1)]
    have H := Lib.hid hx
    clear r1 hx hy
    go_enter Tryz.func71, Tryz.ntmps71
    go_wp2_with (first
      | (go_at_call 88; (with_reducible refine (right_yes va xs _ H.out lx).mono ?_); rintro e w1 ⟨rfl, rfl⟩))
    go_ret2
    exact ⟨_, rfl, Row.nil _, Since.refl _⟩
end Go.Proofs.YtbbemgeinlehmaaGreatDoor.Nat02

namespace Go.Proofs.YtbbemgeinlehmaaGreatDoor.Nat02
open Go.RowKit
set_option linter.unusedVariables false
open Go.Proofs.YtbbemgeinlehmaaGreatDoor.Dig

set_option maxRecDepth 100000 in
set_option maxHeartbeats 4000000 in
theorem sub_good (vx vy : Value) (xs ys : List Nat) (w : World) (hx : Row w vx xs) (hy : Row w vy ys) (rx : rightB xs = true) (ry : rightB ys = true) (hle : num ys ≤ num xs) :
    Calls Tryz.prog 91 #[vx, vy] w (RetRowErr (digs (num xs - num ys)) 0 w) := by
  have HX := Lib.hid hx
  have HY := Lib.hid hy
  have nx := right_norm rx
  have ny := right_norm ry
  have hml : ys.length ≤ xs.length := norm_len_le hx.dig ny.2 hle
  have hcmp : ¬ cmpL xs ys < 0 := fun h => by have := (cmpL_lt hx.dig hy.dig nx.2 ny.2).1 h; omega
  obtain ⟨C, hC⟩ : ∃ s, s = cmpL xs ys := ⟨_, rfl⟩
  rw [← hC] at hcmp
  have hcmp2 : 0 ≤ C := by omega
  obtain ⟨dx, A, cA, rfl, hcx, -⟩ := hx
  obtain ⟨dy, B, cB, rfl, hcy, -⟩ := hy
  have HC := Lib.hid (And.intro hcx hcy)
  have HD := Lib.hid (And.intro dx dy)
  have HR := Lib.hid (And.intro rx (And.intro ry hC))
  obtain ⟨n, hn⟩ : ∃ n, n = xs.length := ⟨_, rfl⟩
  obtain ⟨m, hm⟩ : ∃ n, n = ys.length := ⟨_, rfl⟩
  have hn1 : n ≤ 256 := by omega
  have hm1 : m ≤ n := by omega
  rw [← hn] at HX ⊢
  rw [← hm] at HY ⊢
  have HN := Lib.hid (And.intro hn (And.intro hm hle))
  have hmk := make_digits n (by omega)
  clear hcx hcy dx dy nx ny hn hm rx ry hcmp hC hml hle
  go_enter Tryz.func91, Tryz.ntmps91
  go_wp2_with (first
    | (go_at_call 88; (with_reducible refine (right_yes (.slice A n cA) xs _ HX.out (by have := HN.out; omega)).mono ?_); rw [HR.out.1]; rintro e w1 ⟨rfl, rfl⟩)
    | (go_at_call 88; (with_reducible refine (right_yes (.slice B m cB) ys _ HY.out (by have := HN.out; omega)).mono ?_); rw [HR.out.2.1]; rintro e w1 ⟨rfl, rfl⟩)
    | (go_at_call 100; (with_reducible refine (compare_any (.slice A n cA) (.slice B m cB) xs ys _ HX.out HY.out (by have := HN.out; omega) (by have := HN.out; omega)).mono ?_); rw [← HR.out.2.2]; rintro e w1 ⟨rfl, dn, rfl⟩))
  go_loopw [7, 29] (fun c i wr => ∃ (k t : Nat) (outs : List Nat), k ≤ m ∧ i = .int .i64 k ∧ c = .int .u32 t ∧ t ≤ 1 ∧ Hid (outs.length = k ∧ IsDig outs ∧ num outs + num (ys.take k) = num (xs.take k) + 4294967296 ^ k * t) ∧ Hid (Blk wr w.heap.size (splice (List.replicate n 0) 0 outs)) ∧ Since w wr) (fun _ i _ => m - (intOf i).toNat)
  case atStart => exact ⟨0, 0, [], by omega, rfl, rfl, by omega, ⟨rfl, isDig_nil, by simp [num]⟩, by rw [splice_nil]; exact Blk.made (w.drewN dn) n, ((Since.refl w).drewN dn).alloc _⟩
  case round =>
    obtain ⟨k, t, outs, hk, rfl, rfl, ht, ho, hb, hw⟩ := hrel
    by_cases hlt : k < m
    · have hjx : k < xs.length := by have := HN.out; omega
      have hjy : k < ys.length := by have := HN.out; omega
      obtain ⟨b, o, rfl, hcc⟩ := HC.out.1 (by omega)
      obtain ⟨b2, o2, rfl, hcc2⟩ := HC.out.2 (by omega)
      have hcell := (Below.cell hw (World.block_lt_of_cell? _ _ (hcc k hjx))).trans (hcc k hjx)
      have hcell2 := (Below.cell hw (World.block_lt_of_cell? _ _ (hcc2 k hjy))).trans (hcc2 k hjy)
      have hx1 := getD_lt HD.out.1 k
      have hy1 := getD_lt HD.out.2 k
      have hstep := minus_step ho.out.1 hx1 hy1 ht ho.out.2.2
      obtain ⟨x, hx⟩ : ∃ d, d = xs.getD k 0 := ⟨_, rfl⟩
      obtain ⟨y, hy⟩ : ∃ d, d = ys.getD k 0 := ⟨_, rfl⟩
      rw [← hx, ← hy] at hstep
      rw [← hx] at hcell hx1
      rw [← hy] at hcell2 hy1
      obtain ⟨s, hs⟩ : ∃ s, s = (4294967296 + x - y - t) % 4294967296 := ⟨_, rfl⟩
      obtain ⟨t2, ht2⟩ : ∃ s, s = 1 - (4294967296 + x - y - t) / 4294967296 := ⟨_, rfl⟩
      have HA := Lib.hid fun W => Bits.sub32 x y t s t2 W hx1 hy1 ht hs ht2
      rw [← hs, ← ht2] at hstep
      have hs1 : s < 4294967296 := by omega
      have ht21 : t2 ≤ 1 := by omega
      have hlen : (splice (List.replicate n 0) 0 outs).length = n := by rw [splice_len (by simp; have := ho.out.1; omega)]; simp
      have g1 := hb.out.cell (i := k) (by omega)
      have g2 := hb.out.frozen k
      have hset := hb.out.set (i := k) (d := s) (by omega) hs1
      have e1 := splice_set (ds := List.replicate n 0) (o := 0) (d := s) (outs := outs) (by simp; have := ho.out.1; omega)
      rw [ho.out.1, Nat.zero_add] at e1
      rw [e1] at hset
      obtain ⟨z, hz⟩ : ∃ d, d = (splice (List.replicate n 0) 0 outs).getD k 0 := ⟨_, rfl⟩
      rw [← hz] at g1
      have HS := Lib.hid (And.intro hstep hset)
      have hb1 : b ≠ w.heap.size := by have := World.block_lt_of_cell? _ _ (hcc k hjx); simp at this; omega
      have hb2 : b2 ≠ w.heap.size := by have := World.block_lt_of_cell? _ _ (hcc2 k hjy); simp at this; omega
      clear hcc hcc2 hx hy hs ht2 hstep hlen hset e1 hz hjx hjy
      have i1 : (0 : Int) ≤ (k : Int) := by omega
      have i2 : (k : Int) < (n : Int) := by omega
      have i3 : (k : Int) < (m : Int) := by omega
      go_wp2
      go_region_held3 (fun W => W.cell? ⟨b, o + k, none⟩ = some (.int .u32 (x : Int)) ∧ W.cell? ⟨b2, o2 + k, none⟩ = some (.int .u32 (y : Int)))
        (first | exact ⟨hcell, hcell2⟩ | exact ⟨cell_far hcell hb1 _, cell_far hcell2 hb2 _⟩)
        (first | (go_at_call 109; (with_reducible refine (HA.out _).mono ?_); rintro e w1 ⟨rfl, rfl⟩))
      all_goals
        go_wp2
        go_roundw
        case rel => exact ⟨k + 1, t2, outs ++ [s], by omega, by go_num, rfl, ht21, ⟨by rw [List.length_append, ho.out.1]; rfl, isDig_snoc ho.out.2.1 hs1, HS.out.1⟩, HS.out.2, Since.drew (Since.set hw (Nat.le_refl _) _)⟩
        case measure => simp [intOf]; omega
    · obtain rfl : k = m := by omega
      have HB := Lib.hid (And.intro hb.out hw)
      have HO := Lib.hid ho.out
      clear hb hw ho
      go_wp2
      go_loopw [7, 9] (fun c i wr => ∃ (k2 t : Nat) (outs : List Nat), k ≤ k2 ∧ k2 ≤ n ∧ i = .int .i64 k2 ∧ c = .int .u32 t ∧ t ≤ 1 ∧ Hid (outs.length = k2 ∧ IsDig outs ∧ num outs + num (ys.take k2) = num (xs.take k2) + 4294967296 ^ k2 * t) ∧ Hid (Blk wr w.heap.size (splice (List.replicate n 0) 0 outs)) ∧ Since w wr) (fun _ i _ => n - (intOf i).toNat)
      case atStart => exact ⟨k, t, outs, Nat.le_refl _, hm1, rfl, rfl, ht, HO.out, HB.out.1, HB.out.2⟩
      case round =>
        clear HB HO ht
        obtain ⟨k2, t, outs, hk1, hk2, rfl, rfl, ht, ho, hb, hw⟩ := hrel
        by_cases hlt2 : k2 < n
        · have hjx : k2 < xs.length := by have := HN.out; omega
          obtain ⟨b, o, rfl, hcc⟩ := HC.out.1 (by omega)
          have hcell := (Below.cell hw (World.block_lt_of_cell? _ _ (hcc k2 hjx))).trans (hcc k2 hjx)
          have hx1 := getD_lt HD.out.1 k2
          have hy0 : ys.getD k2 0 = 0 := getD_ge (by have := HN.out; omega)
          have hstep := minus_step ho.out.1 hx1 (by rw [hy0]; omega) ht ho.out.2.2
          rw [hy0, Nat.sub_zero] at hstep
          obtain ⟨x, hx⟩ : ∃ d, d = xs.getD k2 0 := ⟨_, rfl⟩
          rw [← hx] at hcell hx1 hstep
          obtain ⟨s, hs⟩ : ∃ s, s = (4294967296 + x - t) % 4294967296 := ⟨_, rfl⟩
          obtain ⟨t2, ht2⟩ : ∃ s, s = 1 - (4294967296 + x - t) / 4294967296 := ⟨_, rfl⟩
          have HA := Lib.hid fun W => Bits.sub32m x t s t2 W hx1 ht hs ht2
          rw [← hs, ← ht2] at hstep
          have hs1 : s < 4294967296 := by omega
          have ht21 : t2 ≤ 1 := by omega
          have hlen : (splice (List.replicate n 0) 0 outs).length = n := by rw [splice_len (by simp; have := ho.out.1; omega)]; simp
          have g1 := hb.out.cell (i := k2) (by omega)
          have g2 := hb.out.frozen k2
          have hset := hb.out.set (i := k2) (d := s) (by omega) hs1
          have e1 := splice_set (ds := List.replicate n 0) (o := 0) (d := s) (outs := outs) (by simp; have := ho.out.1; omega)
          rw [ho.out.1, Nat.zero_add] at e1
          rw [e1] at hset
          obtain ⟨z, hz⟩ : ∃ d, d = (splice (List.replicate n 0) 0 outs).getD k2 0 := ⟨_, rfl⟩
          rw [← hz] at g1
          have HS := Lib.hid (And.intro hstep hset)
          clear hcc hx hy0 hs ht2 hstep hlen hset e1 hz hjx
          go_wp2_with (go_at_call 109; (with_reducible refine (HA.out _).mono ?_); rintro e w1 ⟨rfl, rfl⟩)
          go_roundw
          case rel => exact ⟨k2 + 1, t2, outs ++ [s], by omega, by omega, by go_num, rfl, ht21, ⟨by rw [List.length_append, ho.out.1]; rfl, isDig_snoc ho.out.2.1 hs1, HS.out.1⟩, HS.out.2, hw.set (Nat.le_refl _) _⟩
          case measure => simp [intOf]; omega
        · obtain rfl : k2 = n := by omega
          have hv := ho.out.2.2
          have hlO := ho.out.1
          have hdO := ho.out.2.1
          have hN := HN.out
          have hnum : num outs = num xs - num ys := by
            refine minus_end (b := t) HD.out.1 hdO (by omega) (by omega) hN.2.2 ?_
            rw [← hN.1]; exact hv
          have hb2 := hb.out
          rw [splice_zero_end (by omega)] at hb2
          have HS := Lib.hid (And.intro hnum (And.intro hb2 (And.intro hlO (show outs.length ≤ 100000 by omega))))
          have HCUT := Lib.hid fun W (h : Blk W w.heap.size outs) => cut_any w.heap.size outs W h HS.out.2.2.2
          simp only [hlO] at HCUT
          clear hv hlO hdO hN hnum hb2
          go_wp2_with (go_at_call 110; (with_reducible refine (HCUT.out _ HS.out.2.1).mono ?_); rintro e w1 ⟨g2, rfl, hr2, hs2⟩)
          go_ret2
          exact ⟨_, rfl, by rw [← HS.out.1]; exact hr2, hw.trans hs2⟩
theorem sub_any (va vb : Value) (xs ys : List Nat) (w : World) (hx : Row w va xs) (hy : Row w vb ys) (lx : xs.length ≤ 10000) (ly : ys.length ≤ 10000) :
    Calls Tryz.prog 91 #[va, vb] w (RetRowErr (subD xs ys).1 (subD xs ys).2 w) := by
  by_cases r1 : rightB xs = true
  · by_cases r2 : rightB ys = true
    · by_cases hle : num ys ≤ num xs
      · rw [subD, if_pos ⟨⟨r1, r2⟩, hle⟩]
        exact sub_good va vb xs ys w hx hy r1 r2 hle
      · rw [subD, if_neg (fun h => hle h.2)]
        have hcmp : cmpL xs ys < 0 := (cmpL_lt hx.dig hy.dig (right_norm r1).2 (right_norm r2).2).2 (by omega)
        have H := Lib.hid (And.intro hx hy)
        have HR := Lib.hid (And.intro r1 r2)
        obtain ⟨C, hC⟩ : ∃ s, s = cmpL xs ys := ⟨_, rfl⟩
        rw [← hC] at hcmp
        have HC := Lib.hid hC
        clear hx hy hle r1 r2 hC
        go_enter Tryz.func91, Tryz.ntmps91
        go_wp2_with (first
          | (go_at_call 88; (with_reducible refine (right_yes va xs _ H.out.1 lx).mono ?_); rw [HR.out.1]; rintro e w1 ⟨rfl, rfl⟩)
          | (go_at_call 88; (with_reducible refine (right_yes vb ys _ H.out.2 ly).mono ?_); rw [HR.out.2]; rintro e w1 ⟨rfl, rfl⟩)
          | (go_at_call 100; (with_reducible refine (compare_any va vb xs ys _ H.out.1 H.out.2 (by omega) (by omega)).mono ?_); rw [← HC.out]; rintro e w1 ⟨rfl, dn, rfl⟩))
        go_ret2
        exact ⟨_, rfl, Row.nil _, (Since.refl _).drewN _⟩
    · have r2' : rightB ys = false := by simpa using r2
      rw [subD, if_neg (fun h => r2 h.1.2)]
      have H := Lib.hid (And.intro hx hy)
      clear r2 hx hy
      go_enter Tryz.func91, Tryz.ntmps91
      go_wp2_with (first
        | (go_at_call 88; (with_reducible refine (right_yes va xs _ H.out.1 lx).mono ?_); rintro e w1 ⟨rfl, rfl⟩)
        | (go_at_call 88; (with_reducible refine (right_yes vb ys _ H.out.2 ly).mono ?_); rintro e w1 ⟨rfl, rfl⟩))
      go_ret2
      exact ⟨_, rfl, Row.nil _, Since.refl _⟩
  · have r1' : rightB xs = false := by simpa using r1
    rw [subD, if_neg (fun h => r1 h.1.1)]
    have H := Lib.hid hx
    clear r1 hx hy
    go_enter Tryz.func91, Tryz.ntmps91
    go_wp2_with (first
      | (go_at_call 88; (with_reducible refine (right_yes va xs _ H.out lx).mono ?_); rintro e w1 ⟨rfl, rfl⟩))
    go_ret2
    exact ⟨_, rfl, Row.nil _, Since.refl _⟩
end Go.Proofs.YtbbemgeinlehmaaGreatDoor.Nat02
