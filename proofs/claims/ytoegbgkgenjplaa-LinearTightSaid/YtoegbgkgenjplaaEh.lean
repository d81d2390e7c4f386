/- Layer 9 (set): Without, the landed one. -/
import Derived.Test.YtoegbgkgenjplaaQal
namespace Go.Proofs.Ytoegbgkgenjplaa.Zs
open Go.RowKit
set_option linter.unusedVariables false
set_option linter.unusedSimpArgs false
open Go.Proofs.Ytoegbgkgenjplaa.Dig Go.Proofs.Ytoegbgkgenjplaa.Lx Go.Proofs.Ytoegbgkgenjplaa.Tk Go.Proofs.Ytoegbgkgenjplaa.Ti
set_option maxRecDepth 20000 in
set_option maxHeartbeats 1000000 in
theorem without_new (v : Value) (l : List Rn) (x : Int) (w : World) (h : Sl 2 QR w v l) (hl : l.length ≤ 1100000) (hb : Bd l) (hx : fits x) :
    Calls Try.prog 100 #[v, .int .i64 x] w (RetF (without l x) w) := by
  obtain ⟨A, c, rfl⟩ := h.form
  cases hr : right l with
  | false =>
    have RA := Lib.hid (right_at h hl hb hr)
    have E := Lib.hid (show without l x = [] by rw [without, if_neg (by simp [hr])])
    clear h hb hr
    go_enter Try.func100, Try.ntmps100
    go_wp2_with (go_at_call 131; (with_reducible refine (RA.out _ (Since.refl _)).mono ?_); rintro e w1 ⟨rfl, k1⟩)
    go_ret
    exact .none E.out k1
  | true =>
    have RA := Lib.hid (right_at h hl hb hr)
    have HF := Lib.hid (right_full hr)
    obtain ⟨R, hR⟩ : ∃ R, R = withoutF l x := ⟨_, rfl⟩
    have e : without l x = R := by rw [without, if_pos hr, hR]
    rw [e]
    obtain ⟨n, hn⟩ : ∃ n, n = l.length := ⟨_, rfl⟩
    rw [← hn] at h hl RA ⊢
    have H := Lib.hid h
    have HN := Lib.hid hn
    have HR := Lib.hid hR
    have WF := Lib.hid (fun (A : Option Addr) (m c : Nat) (xs : List Rn) (a b : Int) (W : World) (h : Rw w W (.slice A m c) xs) (hl : xs.length ≤ 8000000) => withFull_any (.slice A m c) xs a b W h hl)
    simp only [fits] at hx
    clear h hn hb hR e hr
    go_enter Try.func100, Try.ntmps100
    go_wp2_with (go_at_call 131; (with_reducible refine (RA.out _ (Since.refl _)).mono ?_); rintro e w1 ⟨rfl, k1⟩)
    go_loopw [5, 13] (fun s i wr => ∃ (k : Nat) (A : Option Addr) (m c : Nat) (xs : List Rn), i = .int .i64 (k : Int) ∧ s = .slice A m c ∧ k ≤ n ∧ m ≤ 2 * k ∧ Hid (xs.length = m) ∧ Hid (Rw w wr (.slice A m c) xs) ∧ Hid (xs ++ withoutF (l.drop k) x = R)) (fun _ i _ => n - (intOf i).toNat)
    case atStart => exact ⟨0, none, 0, 0, [], rfl, rfl, Nat.zero_le _, Nat.le_refl _, rfl, .nil k1, HR.out.symm⟩
    case round =>
      obtain ⟨k, A2, m, c2, xs, rfl, rfl, hk, hm, HX, HW, HE⟩ := hrel
      by_cases hkn : k < n
      · have hkl : k < l.length := by have := HN.out; omega
        obtain ⟨g, o, rfl, e0, e1⟩ := elR (H.out.since stR HW.out.2) hkl
        have hst := HE.out
        have hbz := HF.out l[k] (List.getElem_mem hkl)
        rw [drop_at hkl, withoutF, ← List.append_assoc, wo] at hst
        generalize l[k] = y at *
        obtain ⟨lo0, hi0⟩ := y
        simp only [mx] at hst e0 e1 hbz
        have ka := Lib.hid (since_alloc wr (.cells #[.int .i64 lo0, .int .i64 hi0] 49))
        have ST := Lib.hid hst
        have WB := Lib.hid (HW.out.since ka.out)
        obtain ⟨r0, r1⟩ := (Bx.fresh wr #[.int .i64 lo0, .int .i64 hi0] 49).two
        have QQ := Lib.hid (Bx.fresh (wr.alloc (.cells #[.int .i64 lo0, .int .i64 hi0] 49)) #[.int .i64 lo0, .int .i64 hi0] 49).two
        have hlx : xs.length ≤ 8000000 := by have := HX.out; omega
        have hgs : (wr.alloc (.cells #[.int .i64 lo0, .int .i64 hi0] 49)).heap.size = wr.heap.size + 1 := by simp
        rw [hgs] at QQ
        clear hst hkl HE hgs
        by_cases c0 : x < lo0 ∨ x > hi0
        · have HE := Lib.hid (show xs ++ [(lo0, hi0)] ++ withoutF (l.drop (k + 1)) x = R by rw [← ST.out, if_pos c0])
          rcases Classical.em (x < lo0) with c1 | c1
          · clear c0
            go_wp2_with (at_builtin; refine wpList_app (WB.out.since (since_alloc _ _)) (by omega) (lo0, hi0) (wr.heap.size + 1) 1 QQ.out.1 QQ.out.2 (by rfl) _ _ rfl rfl rfl ?_; intro A3 c3 w2 h2 _; rw [HX.out] at h2)
            go_roundw
            case rel => exact ⟨k + 1, A3, m + 1, c3, _, by go_num, by rw [HX.out], by omega, by omega, by rw [List.length_append, HX.out]; rfl, h2, HE.out⟩
            case measure => simp [intOf]; omega
          · have c2 : x > hi0 := c0.resolve_left c1
            clear c0
            go_wp2_with (at_builtin; refine wpList_app (WB.out.since (since_alloc _ _)) (by omega) (lo0, hi0) (wr.heap.size + 1) 1 QQ.out.1 QQ.out.2 (by rfl) _ _ rfl rfl rfl ?_; intro A3 c3 w2 h2 _; rw [HX.out] at h2)
            go_roundw
            case rel => exact ⟨k + 1, A3, m + 1, c3, _, by go_num, by rw [HX.out], by omega, by omega, by rw [List.length_append, HX.out]; rfl, h2, HE.out⟩
            case measure => simp [intOf]; omega
        · have HE := Lib.hid (show xs ++ one lo0 (x - 1) ++ one (x + 1) hi0 ++ withoutF (l.drop (k + 1)) x = R by rw [← ST.out, if_neg c0, List.append_assoc xs])
          have c1 : ¬ x < lo0 := fun h => c0 (.inl h)
          have c2 : ¬ x > hi0 := fun h => c0 (.inr h)
          clear c0
          have V1 := Lib.hid (app_len xs lo0 (x - 1))
          have V2 := Lib.hid (app_len (xs ++ one lo0 (x - 1)) (x + 1) hi0)
          go_wp2_with (first
            | (go_at_call 134; (with_reducible refine (WF.out _ _ _ xs _ _ _ WB.out (by omega)).mono ?_); rintro e w2 ⟨A3, m3, c3, rfl, hm3, h3, q3⟩; obtain ⟨r0, r1⟩ := (Keep.box HW.out q3).two; have hm3' : m3 ≤ m + 1 := (by rw [← hm3, ← HX.out]; exact V1.out))
            | (go_at_call 134; (with_reducible refine (WF.out _ _ _ _ _ _ _ h3 (by omega)).mono ?_); rintro e w4 ⟨A4, m4, c4, rfl, hm4, h4, -⟩; have hm4' : m4 ≤ m3 + 1 := (by rw [← hm4, ← hm3]; exact V2.out)))
          go_roundw
          case rel => exact ⟨k + 1, A4, m4, c4, _, by go_num, rfl, by omega, by omega, hm4, h4, HE.out⟩
          case measure => simp [intOf]; omega
      · obtain rfl : k = n := by omega
        have HE2 := Lib.hid (show xs = R by rw [← HE.out, List.drop_of_length_le (by have := HN.out; omega)]; simp [withoutF])
        go_wp2
        go_ret
        exact .of HE2.out HX.out HW.out
end Go.Proofs.Ytoegbgkgenjplaa.Zs
