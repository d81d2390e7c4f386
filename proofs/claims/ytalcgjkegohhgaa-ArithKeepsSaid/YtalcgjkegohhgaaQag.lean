/- Layer 9 (set): what is asked of a set: the landed Next, Has. Layer 9 (set): the landed withFull, Cut, Without. -/
import Derived.Test.YtalcgjkegohhgaaQaf
set_option linter.unusedVariables false
set_option linter.unusedSimpArgs false
section
namespace Go.Proofs.Ytalcgjkegohhgaa.Zs
open Go.RowKit
open Go.Proofs.Ytalcgjkegohhgaa.Dig Go.Proofs.Ytalcgjkegohhgaa.Lx Go.Proofs.Ytalcgjkegohhgaa.Tk Go.Proofs.Ytalcgjkegohhgaa.Ti
set_option maxRecDepth 20000 in
set_option maxHeartbeats 1000000 in
theorem next_any (v : Value) (l : List Rn) (x : Int) (w : World) (h : Sl 2 QR w v l) (hl : l.length ≤ 1100000) (hb : Bd l) (hx : fits x) :
    Calls Try.prog 130 #[v, .int .i64 x] w (RetN (next l x) w) := by
  obtain ⟨A, c, rfl⟩ := h.form
  cases hr : right l with
  | false =>
    have RA := Lib.hid (right_at h hl hb hr)
    have e : next l x = none := by rw [next, if_neg (by simp [hr])]
    rw [e]
    clear h hb hr e
    go_enter Try.func130, Try.ntmps130
    go_wp2_with (go_at_call 58; (with_reducible refine (RA.out _ (Since.refl _)).mono ?_); rintro e w1 ⟨rfl, k1⟩)
    go_ret2
    exact .no rfl k1
  | true =>
    have RA := Lib.hid (right_at h hl hb hr)
    have HF := Lib.hid (right_full hr)
    obtain ⟨R, hR⟩ : ∃ R, R = nextF l x := ⟨_, rfl⟩
    have e : next l x = R := by rw [next, if_pos hr, hR]
    rw [e]
    obtain ⟨n, hn⟩ : ∃ n, n = l.length := ⟨_, rfl⟩
    rw [← hn] at h hl RA ⊢
    have H := Lib.hid h
    have HN := Lib.hid hn
    have HR := Lib.hid hR
    simp only [fits] at hx
    clear h hn hb hR e hr
    go_enter Try.func130, Try.ntmps130
    go_wp2_with (go_at_call 58; (with_reducible refine (RA.out _ (Since.refl _)).mono ?_); rintro e w1 ⟨rfl, k1⟩)
    go_loopw [13] (fun i wr => ∃ k : Nat, i = .int .i64 (k : Int) ∧ k ≤ n ∧ Hid (nextF (l.drop k) x = R) ∧ Hid (Since w wr)) (fun i _ => n - (intOf i).toNat)
    case atStart => exact ⟨0, rfl, Nat.zero_le _, HR.out.symm, k1⟩
    case round =>
      obtain ⟨k, rfl, hk, HE, HW⟩ := hrel
      by_cases hkn : k < n
      · have hkl : k < l.length := by have := HN.out; omega
        obtain ⟨g, o, rfl, e0, e1⟩ := elR (H.out.since stR HW.out) hkl
        have hst := HE.out
        rw [drop_at hkl, nextF] at hst
        have hbz := HF.out l[k] (List.getElem_mem hkl)
        generalize l[k] = y at *
        obtain ⟨lo, hi⟩ := y
        simp only [mx] at hst hbz e0 e1
        have ka := Lib.hid (since_alloc wr (.cells #[.int .i64 lo, .int .i64 hi] 78))
        have ST := Lib.hid hst
        obtain ⟨r0, r1⟩ := (Bx.fresh wr #[.int .i64 lo, .int .i64 hi] 78).two
        clear hst hkl HE
        by_cases c1 : x ≤ hi
        · have HE := Lib.hid ((if_pos c1).symm.trans ST.out)
          by_cases c4 : x < lo
          · have HE2 := Lib.hid ((congrArg some (show lo = max x lo by omega)).trans HE.out)
            go_wp2
            go_ret2
            exact .yes HE2.out (HW.out.trans ka.out)
          · have HE2 := Lib.hid ((congrArg some (show x = max x lo by omega)).trans HE.out)
            go_wp2
            go_ret2
            exact .yes HE2.out (HW.out.trans ka.out)
        · have HE := Lib.hid ((if_neg c1).symm.trans ST.out)
          go_wp2
          go_roundw
          case rel => exact ⟨k + 1, by go_num, by omega, HE.out, HW.out.trans ka.out⟩
          case measure => simp [intOf]; omega
      · obtain rfl : k = n := by omega
        have HE2 := Lib.hid (show none = R by rw [← HE.out, List.drop_of_length_le (by have := HN.out; omega)]; rfl)
        go_wp2
        go_ret2
        exact .no HE2.out HW.out
theorem next_at {v : Value} {l : List Rn} {w : World} (h : Sl 2 QR w v l) (hl : l.length ≤ 1100000) (hb : Bd l) {x : Int} (hx : fits x) {R : Option Int} (hR : next l x = R) (W : World) (k : Since w W) :
    Calls Try.prog 130 #[v, .int .i64 x] W (RetN R W) := by subst hR; exact next_any v l x W (h.since stR k) hl hb hx
theorem has_any (v : Value) (l : List Rn) (x : Int) (w : World) (h : Sl 2 QR w v l) (hl : l.length ≤ 1100000) (hb : Bd l) (hx : fits x) :
    Calls Try.prog 84 #[v, .int .i64 x] w (RetT (has l x) w) := by
  obtain ⟨A, c, rfl⟩ := h.form
  have NA := Lib.hid (fun R hR => next_at h hl hb hx (R := R) hR)
  have e := has_next l x
  cases hn : next l x with
  | none =>
    have NB := Lib.hid (NA.out _ hn)
    rw [hn] at e
    have e2 : has l x = false := by simpa using e
    rw [e2]
    clear h hb hn e e2 NA
    go_enter Try.func84, Try.ntmps84
    go_wp2_with (go_at_call 130; (with_reducible refine (NB.out _ (Since.refl _)).mono ?_); rintro e w1 ⟨rfl, k1⟩)
    go_ret
    exact ⟨rfl, k1⟩
  | some y =>
    have NB := Lib.hid (NA.out _ hn)
    rw [hn] at e
    by_cases c : y = x
    · have e2 : has l x = true := by simpa [c] using e
      rw [e2]
      subst c
      clear h hb hn e e2 NA
      go_enter Try.func84, Try.ntmps84
      go_wp2_with (go_at_call 130; (with_reducible refine (NB.out _ (Since.refl _)).mono ?_); rintro e w1 ⟨rfl, k1⟩)
      go_ret
      exact ⟨rfl, k1⟩
    · have e2 : has l x = false := by simpa [c] using e
      have hz : (y == x) = false := by rw [beq_eq_false_iff_ne]; exact c
      rw [e2]
      clear h hb hn e e2 NA
      go_enter Try.func84, Try.ntmps84
      go_wp2_with (go_at_call 130; (with_reducible refine (NB.out _ (Since.refl _)).mono ?_); rintro e w1 ⟨rfl, k1⟩)
      go_ret
      exact ⟨rfl, k1⟩
end Go.Proofs.Ytalcgjkegohhgaa.Zs
end
section
namespace Go.Proofs.Ytalcgjkegohhgaa.Zs
open Go.RowKit
open Go.Proofs.Ytalcgjkegohhgaa.Dig Go.Proofs.Ytalcgjkegohhgaa.Lx Go.Proofs.Ytalcgjkegohhgaa.Tk Go.Proofs.Ytalcgjkegohhgaa.Ti
set_option maxRecDepth 20000 in
set_option maxHeartbeats 1000000 in
theorem cut_new (v : Value) (l : List Rn) (lo hi : Int) (w : World) (h : Sl 2 QR w v l) (hl : l.length ≤ 1100000) (hb : Bd l) :
    Calls Try.prog 188 #[v, .int .i64 lo, .int .i64 hi] w (RetF (cut l lo hi) w) := by
  obtain ⟨A, c, rfl⟩ := h.form
  cases hr : right l with
  | false =>
    have RA := Lib.hid (right_at h hl hb hr)
    have e : cut l lo hi = [] := by rw [cut, if_neg (by simp [hr])]
    have E := Lib.hid e
    clear h hb hr e
    go_enter Try.func188, Try.ntmps188
    go_wp2_with (go_at_call 58; (with_reducible refine (RA.out _ (Since.refl _)).mono ?_); rintro e w1 ⟨rfl, k1⟩)
    go_ret
    exact .none E.out k1
  | true =>
    have RA := Lib.hid (right_at h hl hb hr)
    obtain ⟨R, hR⟩ : ∃ R, R = cutF l lo hi := ⟨_, rfl⟩
    have e : cut l lo hi = R := by rw [cut, if_pos hr, hR]
    rw [e]
    obtain ⟨n, hn⟩ : ∃ n, n = l.length := ⟨_, rfl⟩
    rw [← hn] at h hl RA ⊢
    have H := Lib.hid h
    have HN := Lib.hid hn
    have HR := Lib.hid hR
    have WF := Lib.hid (fun (w0 : World) (A : Option Addr) (m c : Nat) (xs : List Rn) (a b : Int) (W : World) (h : Rw w0 W (.slice A m c) xs) (hl : xs.length ≤ 8000000) => withFull_any (.slice A m c) xs a b W h hl)
    clear h hn hb hR e hr
    go_enter Try.func188, Try.ntmps188
    go_wp2_with (go_at_call 58; (with_reducible refine (RA.out _ (Since.refl _)).mono ?_); rintro e w1 ⟨rfl, k1⟩)
    go_loopw [7, 15] (fun s i wr => ∃ (k : Nat) (A : Option Addr) (m c : Nat) (xs : List Rn), i = .int .i64 (k : Int) ∧ s = .slice A m c ∧ k ≤ n ∧ m ≤ k ∧ Hid (xs.length = m) ∧ Hid (Rw w wr (.slice A m c) xs) ∧ Hid (xs ++ cutF (l.drop k) lo hi = R)) (fun _ i _ => n - (intOf i).toNat)
    case atStart => exact ⟨0, none, 0, 0, [], rfl, rfl, Nat.zero_le _, Nat.le_refl _, rfl, .nil k1, HR.out.symm⟩
    case round =>
      obtain ⟨k, A2, m, c2, xs, rfl, rfl, hk, hm, HX, HW, HE⟩ := hrel
      by_cases hkn : k < n
      · have hkl : k < l.length := by have := HN.out; omega
        obtain ⟨g, o, rfl, e0, e1⟩ := elR (H.out.since stR HW.out.2) hkl
        have hst := HE.out
        rw [drop_at hkl, cutF, ← List.append_assoc] at hst
        generalize l[k] = y at *
        obtain ⟨lo0, hi0⟩ := y
        simp only at hst e0 e1
        have ka := Lib.hid (since_alloc wr (.cells #[.int .i64 lo0, .int .i64 hi0] 78))
        have ST := Lib.hid (fun (a b : Int) (ha : a = max lo lo0) (hb : b = min hi hi0) => show (xs ++ one a b) ++ cutF (l.drop (k + 1)) lo hi = R by rw [ha, hb]; exact hst)
        have WB := Lib.hid (fun (a b : Int) => WF.out w A2 m c2 xs a b _ (HW.out.since ka.out) (by have := HX.out; omega))
        have LN := Lib.hid (fun (a b : Int) => show (xs ++ one a b).length ≤ m + 1 from HX.out ▸ app_len xs a b)
        obtain ⟨r0, r1⟩ := (Bx.fresh wr #[.int .i64 lo0, .int .i64 hi0] 78).two
        clear hst hkl HE WF
        by_cases c1 : lo0 < lo <;> by_cases c2 : hi < hi0
        all_goals (
          go_wp2_with (go_at_call 112; (with_reducible refine (WB.out _ _).mono ?_); rintro e w2 ⟨A3, m3, c3, rfl, hm3, h3, -⟩; have hm4 : m3 ≤ m + 1 := (by rw [← hm3]; exact LN.out _ _))
          go_roundw)
        all_goals first
          | exact ⟨k + 1, A3, m3, c3, _, by go_num, rfl, by omega, by omega, hm3, h3, ST.out _ _ (by omega) (by omega)⟩
          | (simp [intOf]; omega)
      · obtain rfl : k = n := by omega
        have HE2 := Lib.hid (show xs = R by rw [← HE.out, List.drop_of_length_le (by have := HN.out; omega)]; simp [cutF])
        go_wp2
        go_ret
        exact .of HE2.out HX.out HW.out
theorem cut_any (v : Value) (l : List Rn) (lo hi : Int) (w : World) (h : Sl 2 QR w v l) (hl : l.length ≤ 1100000) (hb : Bd l) :
    Calls Try.prog 188 #[v, .int .i64 lo, .int .i64 hi] w (RetS (cut l lo hi) w) := (cut_new v l lo hi w h hl hb).mono fun _ _ h => h.s
end Go.Proofs.Ytalcgjkegohhgaa.Zs
end
