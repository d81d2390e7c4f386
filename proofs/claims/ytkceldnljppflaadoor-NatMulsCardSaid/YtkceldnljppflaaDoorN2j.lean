/- What estimate, subtractTimes, addBack and divideStep of package nat give back. -/
import Derived.Test.YtkceldnljppflaaDoorN2h
namespace Go.Proofs.YtkceldnljppflaaDoor.Nat02
open Go.RowKit
set_option linter.unusedVariables false
open Go.Proofs.YtkceldnljppflaaDoor.Dig

theorem quiet_add {P : Program} {f : FuncId} {args : Array Value} {w : World} {a n : Nat} {v : Value}
    (h : Calls P f args (w.drewN (a + n)) fun e w' => e = .returned v ∧ ∃ m, w' = (w.drewN (a + n)).drewN m) :
    Calls P f args (w.drewN (a + n)) fun e w'' => e = .returned v ∧ ∃ m, w'' = w.drewN (a + m) :=
  h.mono fun _ _ ⟨he, m, hm⟩ => ⟨he, n + m, by rw [hm, World.drewN_drewN, Nat.add_assoc]⟩

theorem est_test {h lo l r0 p : Nat} (hh : h = p / 4294967296) (hlo : lo = p % 4294967296) (hr : r0 < 4294967296) :
    (l < h → l * 4294967296 + r0 < p) ∧ (h = l → (r0 < lo ↔ l * 4294967296 + r0 < p)) ∧ (h < l → ¬ l * 4294967296 + r0 < p) := by omega

set_option maxRecDepth 100000 in
set_option maxHeartbeats 4000000 in
theorem estimate_any (va vb : Value) (W D : List Nat) (m : Nat) (w : World) (hx : Row w va W) (hy : Row w vb D) (lW : W.length = m + 3) (lD : D.length = m + 2) (hm : m ≤ 10000) (hf : 2147483648 ≤ D.getD (m + 1) 0) :
    Calls Tryd.prog 74 #[va, vb] w fun e w' => e = .returned (.int .u32 ((estD W D : Nat) : Int)) ∧ ∃ n, w' = w.drewN n := by
  obtain ⟨dx, A, cA, rfl, hcx, -⟩ := hx
  obtain ⟨dy, B, cB, rfl, hcy, -⟩ := hy
  obtain ⟨b, o, rfl, hcc⟩ := hcx (by omega)
  obtain ⟨b2, o2, rfl, hcc2⟩ := hcy (by omega)
  have c2 := hcc (m + 2) (by omega)
  have c1 := hcc (m + 1) (by omega)
  have c0 := hcc m (by omega)
  have cf := hcc2 (m + 1) (by omega)
  have cs := hcc2 m (by omega)
  have b2' := getD_lt dx (m + 2)
  have b1' := getD_lt dx (m + 1)
  have b0' := getD_lt dx m
  have bf' := getD_lt dy (m + 1)
  have bs' := getD_lt dy m
  have he : estD W D = estQ (W.getD (m + 2) 0) (W.getD (m + 1) 0) (W.getD m 0) (D.getD (m + 1) 0) (D.getD m 0) := by
    unfold estD; rw [lD]; rfl
  obtain ⟨E, hE⟩ : ∃ e, e = estD W D := ⟨_, rfl⟩
  rw [← hE] at he ⊢
  obtain ⟨r2, hr2⟩ : ∃ d, d = W.getD (m + 2) 0 := ⟨_, rfl⟩
  obtain ⟨r1, hr1⟩ : ∃ d, d = W.getD (m + 1) 0 := ⟨_, rfl⟩
  obtain ⟨r0, hr0⟩ : ∃ d, d = W.getD m 0 := ⟨_, rfl⟩
  obtain ⟨f, hff⟩ : ∃ d, d = D.getD (m + 1) 0 := ⟨_, rfl⟩
  obtain ⟨s, hss⟩ : ∃ d, d = D.getD m 0 := ⟨_, rfl⟩
  rw [← hr2, ← hr1, ← hr0, ← hff, ← hss] at he
  rw [← hr2] at c2 b2'
  rw [← hr1] at c1 b1'
  rw [← hr0] at c0 b0'
  rw [← hff] at cf bf' hf
  rw [← hss] at cs bs'
  rw [lW, lD]
  obtain ⟨p, hp⟩ : ∃ p, p = m + 1 := ⟨_, rfl⟩
  obtain ⟨n, hn⟩ : ∃ p, p = m + 2 := ⟨_, rfl⟩
  obtain ⟨n3, hn3⟩ : ∃ p, p = m + 3 := ⟨_, rfl⟩
  rw [← hn] at c2 ⊢
  rw [← hp] at c1 cf
  rw [← hn3]
  have i1 : (n : Int) - 1 = (p : Int) := by omega
  have i2 : (p : Int) - 1 = (m : Int) := by omega
  have i3 : (p : Int) + 1 = (n : Int) := by omega
  have j1 : (0 : Int) ≤ (p : Int) := by omega
  have j2 : (p : Int) < (n : Int) := by omega
  have j3 : (m : Int) < (n : Int) := by omega
  have j4 : (n : Int) < (n3 : Int) := by omega
  have j5 : (p : Int) < (n3 : Int) := by omega
  have j6 : (m : Int) < (n3 : Int) := by omega
  have j7 : (p : Int) ≤ 10001 := by omega
  have j8 : (0 : Int) ≤ (m : Int) := by omega
  have j9 : (0 : Int) ≤ (n : Int) := by omega
  have k1 : IntKind.i64.wrap ((p : Int) - 1) = (m : Int) := by rw [i2]; exact IntWalk.i64_in _ (by omega)
  have k2 : IntKind.i64.wrap ((p : Int) + 1) = (n : Int) := by rw [i3]; exact IntWalk.i64_in _ (by omega)
  have hn3' : n3 ≤ 10003 := by omega
  clear dx dy hcx hcy hcc hcc2 hr2 hr1 hr0 hff hss lW lD hE hp hn hn3 hm
  by_cases h1 : f ≤ r2
  · have e : E = 4294967295 := by rw [he, estQ, if_pos h1]
    subst e
    clear he
    go_enter Tryd.func74, Tryd.ntmps74
    go_wp2
    go_quiet (fail)
    go_wp2
    go_ret
    exact ⟨rfl, _, by go_simp; rfl⟩
  · have h1' : r2 < f := by omega
    obtain ⟨q, hq⟩ : ∃ q, q = (r2 * 4294967296 + r1) / f := ⟨_, rfl⟩
    obtain ⟨l, hl⟩ : ∃ q, q = (r2 * 4294967296 + r1) % f := ⟨_, rfl⟩
    have hq1 : q < 4294967296 := by
      rw [hq, Nat.div_lt_iff_lt_mul (by omega)]
      have : (r2 + 1) * 4294967296 ≤ f * 4294967296 := Nat.mul_le_mul_right _ h1'
      omega
    have hl1 : l < f := by rw [hl]; exact Nat.mod_lt _ (by omega)
    have HD := Lib.hid fun W => Bits.div32 r2 r1 f q l W b1' bf' h1' hq hl
    obtain ⟨h, hh⟩ : ∃ u, u = (q * s) / 4294967296 := ⟨_, rfl⟩
    obtain ⟨lo, hlo⟩ : ∃ u, u = (q * s) % 4294967296 := ⟨_, rfl⟩
    have HM := Lib.hid fun W => Bits.mul32 q s h lo W hq1 bs' hh hlo
    rw [estQ, if_neg h1, ← hq, ← hl] at he
    obtain ⟨t1, t2, t3⟩ := est_test (l := l) (r0 := r0) hh hlo b0'
    obtain ⟨T, hT⟩ : ∃ t, t = (l * 4294967296 + r0 < q * s) := ⟨_, rfl⟩
    have hh1 : h < 4294967296 := by
      rw [hh, Nat.div_lt_iff_lt_mul (by omega)]
      have : q * s ≤ 4294967295 * 4294967295 := Nat.mul_le_mul (by omega) (by omega)
      omega
    have hlo1 : lo < 4294967296 := by rw [hlo]; exact Nat.mod_lt _ (by omega)
    have hq0 : l * 4294967296 + r0 < q * s → 1 ≤ q := fun h => by
      rcases Nat.eq_zero_or_pos q with h0 | h0
      · rw [h0] at h; simp at h
      · exact h0
    clear hq hl hh hlo h1
    rcases Nat.lt_trichotomy l h with hc | hc | hc
    · have hTT := t1 hc
      rw [if_pos hTT] at he
      subst he
      have hq2 := hq0 hTT
      clear t1 t2 t3 hT hTT hq0
      go_enter Tryd.func74, Tryd.ntmps74
      go_wp2
      go_quiet (fail)
      go_wp2
      go_quiet ((go_at_call 63; exact quiet_add (HD.out _)))
      go_wp2_with (go_at_call 72; (with_reducible refine (HM.out _).mono ?_); rintro e w1 ⟨rfl, rfl⟩)
      go_ret
      exact ⟨ret_int (by omega), _, by go_simp; rfl⟩
    · subst hc
      by_cases hc2 : r0 < lo
      · have hTT := (t2 rfl).1 hc2
        rw [if_pos hTT] at he
        subst he
        have hq2 := hq0 hTT
        clear t1 t2 t3 hT hTT hq0
        go_enter Tryd.func74, Tryd.ntmps74
        go_wp2
        go_quiet (fail)
        go_wp2
        go_quiet ((go_at_call 63; exact quiet_add (HD.out _)))
        go_wp2_with (go_at_call 72; (with_reducible refine (HM.out _).mono ?_); rintro e w1 ⟨rfl, rfl⟩)
        go_ret
        exact ⟨ret_int (by omega), _, by go_simp; rfl⟩
      · have hTT : ¬ l * 4294967296 + r0 < q * s := fun h => hc2 ((t2 rfl).2 h)
        rw [if_neg hTT] at he
        subst he
        have hc3 : lo ≤ r0 := by omega
        clear t1 t2 t3 hT hTT hq0
        go_enter Tryd.func74, Tryd.ntmps74
        go_wp2
        go_quiet (fail)
        go_wp2
        go_quiet ((go_at_call 63; exact quiet_add (HD.out _)))
        go_wp2_with (go_at_call 72; (with_reducible refine (HM.out _).mono ?_); rintro e w1 ⟨rfl, rfl⟩)
        go_ret
        exact ⟨rfl, _, by go_simp; rfl⟩
    · have hTT := t3 hc
      rw [if_neg hTT] at he
      subst he
      have hc2 : h ≤ l := by omega
      have hc3 : ((h : Int) == (l : Int)) = false := by rw [beq_eq_false_iff_ne]; omega
      clear t1 t2 t3 hT hTT hq0
      go_enter Tryd.func74, Tryd.ntmps74
      go_wp2
      go_quiet (fail)
      go_wp2
      go_quiet ((go_at_call 63; exact quiet_add (HD.out _)))
      go_wp2_with (go_at_call 72; (with_reducible refine (HM.out _).mono ?_); rintro e w1 ⟨rfl, rfl⟩)
      go_ret
      exact ⟨rfl, _, by go_simp; rfl⟩
end Go.Proofs.YtkceldnljppflaaDoor.Nat02
