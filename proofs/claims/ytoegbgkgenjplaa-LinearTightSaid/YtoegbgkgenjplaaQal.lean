/- Layer 9 (set): the landed withFull. Layer 9 (set): the landed withFull, Cut, Without. -/
import Derived.Test.YtoegbgkgenjplaaE0
set_option linter.unusedVariables false
set_option linter.unusedSimpArgs false
section
namespace Go.Proofs.Ytoegbgkgenjplaa.Zs
open Go.RowKit
open Go.Proofs.Ytoegbgkgenjplaa.Dig Go.Proofs.Ytoegbgkgenjplaa.Lx Go.Proofs.Ytoegbgkgenjplaa.Tk Go.Proofs.Ytoegbgkgenjplaa.Ti
theorem withFull_any {w0 : World} (v : Value) (xs : List Rn) (lo hi : Int) (w : World) (h : Rw w0 w v xs) (hl : xs.length ≤ 8000000) :
    Calls Try.prog 134 #[v, .int .i64 lo, .int .i64 hi] w (RetW w0 w v (xs ++ one lo hi)) := by
  obtain ⟨A, c, rfl⟩ := h.form
  by_cases hc : lo > hi
  · have e : xs ++ one lo hi = xs := by rw [one, if_neg (by omega), List.append_nil]
    rw [e]
    have H := Lib.hid h
    clear h e
    go_enter Try.func134, Try.ntmps134
    go_wp2
    go_ret
    exact ⟨_, _, _, rfl, rfl, H.out, .refl _ _⟩
  · have e : xs ++ one lo hi = xs ++ [(lo, hi)] := by rw [one, if_pos (by omega)]
    rw [e]
    have H := Lib.hid h
    have P := Lib.hid (Bx.fresh w #[.int .i64 lo, .int .i64 hi] 49).two
    clear h e
    go_enter Try.func134, Try.ntmps134
    go_wp2_with (at_builtin; refine wpList_app (H.out.since (since_alloc _ _)) (by omega) (lo, hi) w.heap.size 1 P.out.1 P.out.2 (by rfl) _ _ rfl rfl rfl ?_; intro A2 c2 w2 h2 h3)
    go_ret
    exact ⟨_, _, _, rfl, by simp, h2, h3.pre (since_alloc _ _)⟩
end Go.Proofs.Ytoegbgkgenjplaa.Zs
end
section
namespace Go.Proofs.Ytoegbgkgenjplaa.Zs
open Go.RowKit
open Go.Proofs.Ytoegbgkgenjplaa.Dig Go.Proofs.Ytoegbgkgenjplaa.Lx Go.Proofs.Ytoegbgkgenjplaa.Tk Go.Proofs.Ytoegbgkgenjplaa.Ti
set_option maxRecDepth 20000 in
set_option maxHeartbeats 1000000 in
theorem cut_new (v : Value) (l : List Rn) (lo hi : Int) (w : World) (h : Sl 2 QR w v l) (hl : l.length ≤ 1100000) (hb : Bd l) :
    Calls Try.prog 133 #[v, .int .i64 lo, .int .i64 hi] w (RetF (cut l lo hi) w) := by
  obtain ⟨A, c, rfl⟩ := h.form
  cases hr : right l with
  | false =>
    have RA := Lib.hid (right_at h hl hb hr)
    have e : cut l lo hi = [] := by rw [cut, if_neg (by simp [hr])]
    have E := Lib.hid e
    clear h hb hr e
    go_enter Try.func133, Try.ntmps133
    go_wp2_with (go_at_call 131; (with_reducible refine (RA.out _ (Since.refl _)).mono ?_); rintro e w1 ⟨rfl, k1⟩)
    go_ret
    exact .none E.out k1
  | true =>
    have RA := Lib.hid (right_at h hl hb hr)
    obtain ⟨R, hR⟩ : ∃ R, R = cutF l lo hi := ⟨_, rfl⟩
    have e : cut l lo hi = R := by rw [cut, if_pos hr, hR]
    rw [e]
    obtain ⟨n, hn⟩ : ∃ n, n = l.length := ⟨_, rfl⟩
    rw [← hn] at h hl RA ⊢
    have H := Lib.hid h
    have HN := Lib.hid hn
    have HR := Lib.hid hR
    have WF := Lib.hid (fun (w0 : World) (A : Option Addr) (m c : Nat) (xs : List Rn) (a b : Int) (W : World) (h : Rw w0 W (.slice A m c) xs) (hl : xs.length ≤ 8000000) => withFull_any (.slice A m c) xs a b W h hl)
    clear h hn hb hR e hr
    go_enter Try.func133, Try.ntmps133
    go_wp2_with (go_at_call 131; (with_reducible refine (RA.out _ (Since.refl _)).mono ?_); rintro e w1 ⟨rfl, k1⟩)
    go_loopw [7, 15] (fun s i wr => ∃ (k : Nat) (A : Option Addr) (m c : Nat) (xs : List Rn), i = .int .i64 (k : Int) ∧ s = .slice A m c ∧ k ≤ n ∧ m ≤ k ∧ Hid (xs.length = m) ∧ Hid (Rw w wr (.slice A m c) xs) ∧ Hid (xs ++ cutF (l.drop k) lo hi = R)) (fun _ i _ => n - (intOf i).toNat)
    case atStart => exact ⟨0, none, 0, 0, [], rfl, rfl, Nat.zero_le _, Nat.le_refl _, rfl, .nil k1, HR.out.symm⟩
    case round =>
      obtain ⟨k, A2, m, c2, xs, rfl, rfl, hk, hm, HX, HW, HE⟩ := hrel
      by_cases hkn : k < n
      · have hkl : k < l.length := by have := HN.out; omega
        obtain ⟨g, o, rfl, e0, e1⟩ := elR (H.out.since stR HW.out.2) hkl
        have hst := HE.out
        rw [drop_at hkl, cutF, ← List.append_assoc] at hst
        generalize l[k] = y at *
        obtain ⟨lo0, hi0⟩ := y
        simp only at hst e0 e1
        have ka := Lib.hid (since_alloc wr (.cells #[.int .i64 lo0, .int .i64 hi0] 49))
        have ST := Lib.hid (fun (a b : Int) (ha : a = max lo lo0) (hb : b = min hi hi0) => show (xs ++ one a b) ++ cutF (l.drop (k + 1)) lo hi = R by rw [ha, hb]; exact hst)
        have WB := Lib.hid (fun (a b : Int) => WF.out w A2 m c2 xs a b _ (HW.out.since ka.out) (by have := HX.out; omega))
        have LN := Lib.hid (fun (a b : Int) => show (xs ++ one a b).length ≤ m + 1 from HX.out ▸ app_len xs a b)
        obtain ⟨r0, r1⟩ := (Bx.fresh wr #[.int .i64 lo0, .int .i64 hi0] 49).two
        clear hst hkl HE WF
        by_cases c1 : lo0 < lo <;> by_cases c2 : hi < hi0
        all_goals (
          go_wp2_with (go_at_call 134; (with_reducible refine (WB.out _ _).mono ?_); rintro e w2 ⟨A3, m3, c3, rfl, hm3, h3, -⟩; have hm4 : m3 ≤ m + 1 := (by rw [← hm3]; exact LN.out _ _))
          go_roundw)
        all_goals first
          | exact ⟨k + 1, A3, m3, c3, _, by go_num, rfl, by omega, by omega, hm3, h3, ST.out _ _ (by omega) (by omega)⟩
          | (simp [intOf]; omega)
      · obtain rfl : k = n := by omega
        have HE2 := Lib.hid (show xs = R by rw [← HE.out, List.drop_of_length_le (by have := HN.out; omega)]; simp [cutF])
        go_wp2
        go_ret
        exact .of HE2.out HX.out HW.out
theorem cut_any (v : Value) (l : List Rn) (lo hi : Int) (w : World) (h : Sl 2 QR w v l) (hl : l.length ≤ 1100000) (hb : Bd l) :
    Calls Try.prog 133 #[v, .int .i64 lo, .int .i64 hi] w (RetS (cut l lo hi) w) := (cut_new v l lo hi w h hl hb).mono fun _ _ h => h.s
end Go.Proofs.Ytoegbgkgenjplaa.Zs
end
