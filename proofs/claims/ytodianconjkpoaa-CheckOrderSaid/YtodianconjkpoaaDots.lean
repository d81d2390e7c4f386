/- What Dot gives back: the code's and the document's own, as one sum over two rows of numbers. -/
import Derived.Test.YtodianconjkpoaaChk
import Derived.Test.YtodianconjkpoaaRef01
namespace Go.Proofs.Ytodianconjkpoaa.Dots
open Go.RowKit
open Go.Proofs.Ytodianconjkpoaa.Num
open Go.Proofs.Ytodianconjkpoaa.Chk (Drew)

/-- the sum of products from place k on, m of them, s gathered so far -/
def dotF (x y : Nat → Int) : Nat → Nat → Int → Int × Int
  | 0, _, s => (s, 0)
  | m + 1, k, s => if fits (x k * y k) = false then (0, 4) else if fits (s + x k * y k) = false then (0, 4) else dotF x y m (k + 1) (s + x k * y k)

theorem dot_p {x y : Nat → Int} {m k : Nat} {s : Int} (h : fits (x k * y k) = false) : dotF x y (m + 1) k s = (0, 4) := by rw [dotF, if_pos h]
theorem dot_s {x y : Nat → Int} {m k : Nat} {s : Int} (h : fits (x k * y k) = true) (h2 : fits (s + x k * y k) = false) : dotF x y (m + 1) k s = (0, 4) := by
  rw [dotF, if_neg (by simp [h]), if_pos h2]
theorem dot_n {x y : Nat → Int} {m k : Nat} {s : Int} (h : fits (x k * y k) = true) (h2 : fits (s + x k * y k) = true) : dotF x y (m + 1) k s = dotF x y m (k + 1) (s + x k * y k) := by
  rw [dotF, if_neg (by simp [h]), if_neg (by simp [h2])]

theorem drew_refl (w : World) : Drew w w := ⟨0, rfl⟩
theorem drew_more {w : World} (n m : Nat) : Drew w ((w.drewN n).drewN m) := ⟨n + m, by rw [World.drewN_drewN]⟩

theorem drew_then {w wr : World} (h : Drew w wr) (m : Nat) : Drew w (wr.drewN m) := by
  obtain ⟨n, rfl⟩ := h
  exact ⟨n + m, by rw [World.drewN_drewN]⟩
theorem drew_row {w wr : World} (h : Drew w wr) {b o n : Nat} {x : Nat → Int} (hx : ∀ k, k < n → fits (x k) = true ∧ w.cell? ⟨b, o + k, none⟩ = some (.int .i64 (x k))) (k : Nat) (hk : k < n) :
    fits (x k) = true ∧ wr.cell? ⟨b, o + k, none⟩ = some (.int .i64 (x k)) := by
  obtain ⟨n, rfl⟩ := h
  exact hx k hk
theorem code_mul (a b : Int) (ha : fits a = true) (hb : fits b = true) (w : World) :
    Calls Try.prog 15 #[.int .i64 a, .int .i64 b] w fun e w' => e = two (val (a * b)) (err (a * b)) ∧ w' = w :=
  (Chk.mul_any a b ha hb w).mono fun _ _ ⟨h1, h2⟩ => ⟨h1, h2.symm⟩
theorem doc_mul (a b : Int) (ha : fits a = true) (hb : fits b = true) (w : World) :
    Calls Try.prog 16 #[.int .i64 a, .int .i64 b] w fun e w' => e = two (val (a * b)) (err (a * b)) ∧ w' = w :=
  (Ref01.mul_any a b ha hb w).mono fun _ _ ⟨h1, h2⟩ => ⟨h1, h2.symm⟩

theorem code_long (a0 a1 : Option Addr) (n0 c0 n1 c1 : Nat) (h : n0 ≠ n1) (w : World) :
    Calls Try.prog 21 #[.slice a0 n0 c0, .slice a1 n1 c1] w fun e w' => e = two 0 2 ∧ Drew w w' := by
  have hg : ((n0 : Int) != (n1 : Int)) = true := by simp; omega
  go_enter Try.func21, Try.ntmps21
  go_wp2
  go_ret2
  exact ⟨rfl, drew_refl _⟩

theorem code_none (a0 a1 : Option Addr) (c0 c1 : Nat) (w : World) :
    Calls Try.prog 21 #[.slice a0 0 c0, .slice a1 0 c1] w fun e w' => e = two 0 0 ∧ Drew w w' := by
  go_enter Try.func21, Try.ntmps21
  go_wp2
  refine wp_loop_rounds 1 ?_
  rw [rounds_succ]
  go_wp2
  go_ret2
  exact ⟨rfl, drew_refl _⟩

theorem code_row (b0 o0 c0 b1 o1 c1 n : Nat) (x y : Nat → Int) (w : World) (hn : n ≤ 9223372036854775807)
    (hx : ∀ k, k < n → fits (x k) = true ∧ w.cell? ⟨b0, o0 + k, none⟩ = some (.int .i64 (x k)))
    (hy : ∀ k, k < n → fits (y k) = true ∧ w.cell? ⟨b1, o1 + k, none⟩ = some (.int .i64 (y k))) :
    Calls Try.prog 21 #[.slice (some ⟨b0, o0, none⟩) n c0, .slice (some ⟨b1, o1, none⟩) n c1] w fun e w' => e = two (dotF x y n 0 0).1 (dotF x y n 0 0).2 ∧ Drew w w' := by
  have HX := Lib.hid hx; clear hx
  have HY := Lib.hid hy; clear hy
  go_enter Try.func21, Try.ntmps21
  go_wp2
  go_loopw [6, 17] (fun sv i wr => ∃ (k : Nat) (s : Int), k ≤ n ∧ i = .int .i64 k ∧ sv = .int .i64 s ∧ Hid (fits s = true) ∧ Hid (dotF x y (n - k) k s = dotF x y n 0 0) ∧ Drew w wr) (fun _ i _ => n - (intOf i).toNat)
  case atStart => exact ⟨0, 0, Nat.zero_le _, rfl, rfl, Lib.hid (by decide), Lib.hid rfl, drew_refl _⟩
  case round =>
    obtain ⟨k, s, hk, rfl, rfl, hs, hd, hw⟩ := hrel
    by_cases hlt : k < n
    · obtain ⟨hx1, hx2⟩ := drew_row hw HX.out k hlt
      obtain ⟨hy1, hy2⟩ := drew_row hw HY.out k hlt
      obtain ⟨X, hX⟩ : ∃ X, X = x k := ⟨_, rfl⟩
      obtain ⟨Y, hY⟩ : ∃ Y, Y = y k := ⟨_, rfl⟩
      rw [← hX] at hx1 hx2
      rw [← hY] at hy1 hy2
      obtain ⟨m, hm⟩ : ∃ m, n - k = m + 1 := ⟨n - k - 1, by omega⟩
      have hd1 := hd.out
      rw [hm] at hd1
      have HX1 := Lib.hid hx1
      have HY1 := Lib.hid hy1
      have HXX := Lib.hid hX
      have HYY := Lib.hid hY
      have HM := Lib.hid hm
      by_cases hp : fits (X * Y) = true
      · have e1 : err (X * Y) = 0 := err_in hp
        have v1 : val (X * Y) = X * Y := val_in hp
        have HP := Lib.hid hp
        by_cases hq : fits (s + X * Y) = true
        · have e2 : err (s + X * Y) = 0 := err_in hq
          have v2 : val (s + X * Y) = s + X * Y := val_in hq
          have HQ := Lib.hid hq
          have hd2 : dotF x y (n - (k + 1)) (k + 1) (s + X * Y) = dotF x y n 0 0 := by
            rw [← hd1, dot_n (by rw [← hX, ← hY]; exact hp) (by rw [← hX, ← hY]; exact hq), ← hX, ← hY]
            congr 1; omega
          have HD2 := Lib.hid hd2
          clear hd1 hd2 hp hq hx1 hy1 hX hY hm hd
          go_wp2
          go_quiet ((go_at_call 15; exact Calls.quiet_of_same ((code_mul _ _ HX1.out HY1.out _))))
          go_wp2_with (go_at_call 11; refine (Chk.add_any _ _ hs.out HP.out _).mono ?_; rintro e w' ⟨rfl, rfl⟩)
          go_roundw
          case rel => exact ⟨k + 1, s + X * Y, by omega, by go_num, rfl, HQ, HD2, drew_then hw _⟩
          case measure => simp [intOf]; omega
        · have hq' : fits (s + X * Y) = false := by simpa using hq
          have e2 : err (s + X * Y) = 4 := err_out hq'
          have hd2 : dotF x y n 0 0 = (0, 4) := by
            rw [← hd1, dot_s (by rw [← hX, ← hY]; exact hp) (by rw [← hX, ← hY]; exact hq')]
          have HD2 := Lib.hid hd2
          clear hd1 hd2 hp hq hq' hx1 hy1 hX hY hm hd
          go_wp2
          go_quiet ((go_at_call 15; exact Calls.quiet_of_same ((code_mul _ _ HX1.out HY1.out _))))
          go_wp2_with (go_at_call 11; refine (Chk.add_any _ _ hs.out HP.out _).mono ?_; rintro e w' ⟨rfl, rfl⟩)
          go_ret2
          exact ⟨two_eq (by rw [HD2.out]) (by rw [HD2.out]), drew_then hw _⟩
      · have hp' : fits (X * Y) = false := by simpa using hp
        have e1 : err (X * Y) = 4 := err_out hp'
        have hd2 : dotF x y n 0 0 = (0, 4) := by
          rw [← hd1, dot_p (by rw [← hX, ← hY]; exact hp')]
        have HD2 := Lib.hid hd2
        clear hd1 hd2 hp hp' hx1 hy1 hX hY hm hd
        go_wp2
        go_quiet ((go_at_call 15; exact Calls.quiet_of_same ((code_mul _ _ HX1.out HY1.out _))))
        go_wp2
        go_ret2
        exact ⟨two_eq (by rw [HD2.out]) (by rw [HD2.out]), drew_then hw _⟩
    · go_wp2
      obtain rfl : k = n := by omega
      have hd' := hd.out
      rw [Nat.sub_self, dotF] at hd'
      go_ret2
      exact ⟨two_eq (by rw [← hd']) (by rw [← hd']), hw⟩

theorem doc_long (a0 a1 : Option Addr) (n0 c0 n1 c1 : Nat) (h : n0 ≠ n1) (w : World) :
    Calls Try.prog 22 #[.slice a0 n0 c0, .slice a1 n1 c1] w fun e w' => e = two 0 2 ∧ Drew w w' := by
  have hg : ((n0 : Int) != (n1 : Int)) = true := by simp; omega
  go_enter Try.func22, Try.ntmps22
  go_wp2
  go_ret2
  exact ⟨rfl, drew_refl _⟩

theorem doc_none (a0 a1 : Option Addr) (c0 c1 : Nat) (w : World) :
    Calls Try.prog 22 #[.slice a0 0 c0, .slice a1 0 c1] w fun e w' => e = two 0 0 ∧ Drew w w' := by
  go_enter Try.func22, Try.ntmps22
  go_wp2
  refine wp_loop_rounds 1 ?_
  rw [rounds_succ]
  go_wp2
  go_ret2
  exact ⟨rfl, drew_refl _⟩

theorem doc_row (b0 o0 c0 b1 o1 c1 n : Nat) (x y : Nat → Int) (w : World) (hn : n ≤ 9223372036854775807)
    (hx : ∀ k, k < n → fits (x k) = true ∧ w.cell? ⟨b0, o0 + k, none⟩ = some (.int .i64 (x k)))
    (hy : ∀ k, k < n → fits (y k) = true ∧ w.cell? ⟨b1, o1 + k, none⟩ = some (.int .i64 (y k))) :
    Calls Try.prog 22 #[.slice (some ⟨b0, o0, none⟩) n c0, .slice (some ⟨b1, o1, none⟩) n c1] w fun e w' => e = two (dotF x y n 0 0).1 (dotF x y n 0 0).2 ∧ Drew w w' := by
  have HX := Lib.hid hx; clear hx
  have HY := Lib.hid hy; clear hy
  go_enter Try.func22, Try.ntmps22
  go_wp2
  go_loopw [6, 7] (fun sv i wr => ∃ (k : Nat) (s : Int), k ≤ n ∧ i = .int .i64 k ∧ sv = .int .i64 s ∧ Hid (fits s = true) ∧ Hid (dotF x y (n - k) k s = dotF x y n 0 0) ∧ Drew w wr) (fun _ i _ => n - (intOf i).toNat)
  case atStart => exact ⟨0, 0, Nat.zero_le _, rfl, rfl, Lib.hid (by decide), Lib.hid rfl, drew_refl _⟩
  case round =>
    obtain ⟨k, s, hk, rfl, rfl, hs, hd, hw⟩ := hrel
    by_cases hlt : k < n
    · obtain ⟨hx1, hx2⟩ := drew_row hw HX.out k hlt
      obtain ⟨hy1, hy2⟩ := drew_row hw HY.out k hlt
      obtain ⟨X, hX⟩ : ∃ X, X = x k := ⟨_, rfl⟩
      obtain ⟨Y, hY⟩ : ∃ Y, Y = y k := ⟨_, rfl⟩
      rw [← hX] at hx1 hx2
      rw [← hY] at hy1 hy2
      obtain ⟨m, hm⟩ : ∃ m, n - k = m + 1 := ⟨n - k - 1, by omega⟩
      have hd1 := hd.out
      rw [hm] at hd1
      have HX1 := Lib.hid hx1
      have HY1 := Lib.hid hy1
      have HXX := Lib.hid hX
      have HYY := Lib.hid hY
      have HM := Lib.hid hm
      by_cases hp : fits (X * Y) = true
      · have e1 : err (X * Y) = 0 := err_in hp
        have v1 : val (X * Y) = X * Y := val_in hp
        have HP := Lib.hid hp
        by_cases hq : fits (s + X * Y) = true
        · have e2 : err (s + X * Y) = 0 := err_in hq
          have v2 : val (s + X * Y) = s + X * Y := val_in hq
          have HQ := Lib.hid hq
          have hd2 : dotF x y (n - (k + 1)) (k + 1) (s + X * Y) = dotF x y n 0 0 := by
            rw [← hd1, dot_n (by rw [← hX, ← hY]; exact hp) (by rw [← hX, ← hY]; exact hq), ← hX, ← hY]
            congr 1; omega
          have HD2 := Lib.hid hd2
          clear hd1 hd2 hp hq hx1 hy1 hX hY hm hd
          go_wp2
          go_quiet ((go_at_call 16; exact Calls.quiet_of_same ((doc_mul _ _ HX1.out HY1.out _))))
          go_wp2_with (go_at_call 12; refine (Ref01.add_any _ _ hs.out HP.out _).mono ?_; rintro e w' ⟨rfl, rfl⟩)
          go_roundw
          case rel => exact ⟨k + 1, s + X * Y, by omega, by go_num, rfl, HQ, HD2, drew_then hw _⟩
          case measure => simp [intOf]; omega
        · have hq' : fits (s + X * Y) = false := by simpa using hq
          have e2 : err (s + X * Y) = 4 := err_out hq'
          have hd2 : dotF x y n 0 0 = (0, 4) := by
            rw [← hd1, dot_s (by rw [← hX, ← hY]; exact hp) (by rw [← hX, ← hY]; exact hq')]
          have HD2 := Lib.hid hd2
          clear hd1 hd2 hp hq hq' hx1 hy1 hX hY hm hd
          go_wp2
          go_quiet ((go_at_call 16; exact Calls.quiet_of_same ((doc_mul _ _ HX1.out HY1.out _))))
          go_wp2_with (go_at_call 12; refine (Ref01.add_any _ _ hs.out HP.out _).mono ?_; rintro e w' ⟨rfl, rfl⟩)
          go_ret2
          exact ⟨two_eq (by rw [HD2.out]) (by rw [HD2.out]), drew_then hw _⟩
      · have hp' : fits (X * Y) = false := by simpa using hp
        have e1 : err (X * Y) = 4 := err_out hp'
        have hd2 : dotF x y n 0 0 = (0, 4) := by
          rw [← hd1, dot_p (by rw [← hX, ← hY]; exact hp')]
        have HD2 := Lib.hid hd2
        clear hd1 hd2 hp hp' hx1 hy1 hX hY hm hd
        go_wp2
        go_quiet ((go_at_call 16; exact Calls.quiet_of_same ((doc_mul _ _ HX1.out HY1.out _))))
        go_wp2
        go_ret2
        exact ⟨two_eq (by rw [HD2.out]) (by rw [HD2.out]), drew_then hw _⟩
    · go_wp2
      obtain rfl : k = n := by omega
      have hd' := hd.out
      rw [Nat.sub_self, dotF] at hd'
      go_ret2
      exact ⟨two_eq (by rw [← hd']) (by rw [← hd']), hw⟩

end Go.Proofs.Ytodianconjkpoaa.Dots
