/- Layer 13 (reify), pure: the least sum is not above the greatest. Layer 13 (reify), pure: where all variables b -/
import Derived.Test.YtoegbgkgenjplaaWa
import Derived.Test.YtoegbgkgenjplaaEj
set_option linter.unusedVariables false
set_option linter.unusedSimpArgs false
section
namespace Go.Proofs.Ytoegbgkgenjplaa.Rf
open Go.Proofs.Ytoegbgkgenjplaa.Zs Go.Proofs.Ytoegbgkgenjplaa.Sn Go.Proofs.Ytoegbgkgenjplaa.Ln
theorem lg_le : ∀ {ts : List Tm}, (∀ t ∈ ts, Bt t) → lsum ts ≤ gsum ts
  | [], _ => Int.le_refl _
  | t :: ts, h => by
    have h2 := lg_le (ts := ts) fun t' ht => h t' (by simp [ht])
    simp only [lsum, gsum, mnT, mxT]
    omega
theorem alw_nev {k c l g : Int} (h : l ≤ g) : ¬ (alw k c l g = true ∧ nev k c l g = true) := by
  simp only [alw, nev, Bool.or_eq_true, Bool.and_eq_true, decide_eq_true_eq]
  omega
end Go.Proofs.Ytoegbgkgenjplaa.Rf
end
section
namespace Go.Proofs.Ytoegbgkgenjplaa.Rf
open Go.Proofs.Ytoegbgkgenjplaa.Zs Go.Proofs.Ytoegbgkgenjplaa.Sn Go.Proofs.Ytoegbgkgenjplaa.Ln
theorem lg_eq : ∀ {ts : List Tm}, (∀ t ∈ ts, t.lo = t.hi) → lsum ts = gsum ts
  | [], _ => rfl
  | t :: ts, h => by
    have h1 := h t (by simp)
    have h2 := lg_eq (ts := ts) fun t' ht => h t' (by simp [ht])
    simp only [lsum, gsum, mnT, mxT]
    rw [h1]
    omega
theorem rei_decides {k c : Int} {a x : List Int} {D E : Ds} (h : Gd D) (hk : k = 4 ∨ k = 5) (hx : x.all (isV D.length) = true) (hf : 0 ≤ fl x ∧ (fl x).toNat < D.length) (ht : domAt D (fl x) = [(0, 0)] ∨ domAt D (fl x) = [(1, 1)] ∨ domAt D (fl x) = [(0, 1)])
    (hfix : ∀ y ∈ x.take a.length, lo (domAt D y) = hi (domAt D y)) (he : reiL k c a x D = some E) : lo (domAt E (fl x)) = hi (domAt E (fl x)) := by
  obtain ⟨g1, g2⟩ := rei_good h hx hf ht he
  rcases ht with h0 | h0 | h0
  · rw [sub_one g1 g2 hf zero_right h0]; rfl
  · rw [sub_one g1 g2 hf one_right h0]; rfl
  · have hl : lsum (tms a x D) = gsum (tms a x D) := by
      rw [← tms_cut a x D a.length (Nat.le_refl _)]
      refine lg_eq fun t ht => ?_
      obtain ⟨p, hp, rfl⟩ := List.mem_map.1 ht
      exact hfix _ (List.of_mem_zip hp).2
    unfold reiL at he
    rw [if_neg (by rw [h0]; decide), if_neg (by rw [h0]; decide)] at he
    cases he
    rw [domAt_set hf.2, if_pos rfl, h0, ← hl]
    generalize lsum (tms a x D) = l
    have e1 : without [(0, 1)] 0 = [(1, 1)] := by decide
    have e2 : without [(0, 1)] 1 = [(0, 0)] := by decide
    unfold dcd
    rw [e1, e2]
    cases ha : alw k c l l with
    | true => rfl
    | false =>
      cases hn : nev k c l l with
      | true => rfl
      | false =>
        exfalso
        simp [alw] at ha
        simp [nev] at hn
        omega
end Go.Proofs.Ytoegbgkgenjplaa.Rf
end
section
namespace Go.Proofs.Ytoegbgkgenjplaa.Zs
open Go.RowKit
open Go.Proofs.Ytoegbgkgenjplaa.Dig Go.Proofs.Ytoegbgkgenjplaa.Lx Go.Proofs.Ytoegbgkgenjplaa.Tk Go.Proofs.Ytoegbgkgenjplaa.Ti
set_option maxRecDepth 20000 in
set_option maxHeartbeats 1000000 in
theorem rwithout_any (v : Value) (l : List Rn) (x : Int) (w : World) (h : Sl 2 QR w v l) (hl : l.length ≤ 1100000) (hb : Bd l) (hx : fits x) :
    Calls Try.prog 140 #[v, .int .i64 x] w (RetS (without l x) w) := by
  obtain ⟨A, c, rfl⟩ := h.form
  cases hr : right l with
  | false =>
    have RA := Lib.hid (rright_at h hl hb hr)
    have E := Lib.hid (show without l x = [] by rw [without, if_neg (by simp [hr])])
    clear h hb hr
    go_enter Try.func140, Try.ntmps140
    go_wp2_with (go_at_call 57; (with_reducible refine (RA.out _ (Since.refl _)).mono ?_); rintro e w1 ⟨rfl, k1⟩)
    go_ret
    exact .none E.out k1
  | true =>
    have RA := Lib.hid (rright_at h hl hb hr)
    have HF := Lib.hid (right_full hr)
    obtain ⟨R, hR⟩ : ∃ R, R = withoutF l x := ⟨_, rfl⟩
    have e : without l x = R := by rw [without, if_pos hr, hR]
    rw [e]
    obtain ⟨n, hn⟩ : ∃ n, n = l.length := ⟨_, rfl⟩
    rw [← hn] at h hl RA ⊢
    have H := Lib.hid h
    have HN := Lib.hid hn
    have HR := Lib.hid hR
    simp only [fits] at hx
    clear h hn hb hR e hr
    go_enter Try.func140, Try.ntmps140
    go_wp2_with (go_at_call 57; (with_reducible refine (RA.out _ (Since.refl _)).mono ?_); rintro e w1 ⟨rfl, k1⟩)
    go_loopw [5, 6] (fun s i wr => ∃ (k : Nat) (A : Option Addr) (m c : Nat) (xs : List Rn), i = .int .i64 (k : Int) ∧ s = .slice A m c ∧ k ≤ n ∧ m ≤ 2 * k ∧ Hid (xs.length = m) ∧ Hid (Rw w wr (.slice A m c) xs) ∧ Hid (xs ++ withoutF (l.drop k) x = R)) (fun _ i _ => n - (intOf i).toNat)
    case atStart => exact ⟨0, none, 0, 0, [], rfl, rfl, Nat.zero_le _, Nat.le_refl _, rfl, .nil k1, HR.out.symm⟩
    case round =>
      obtain ⟨k, A2, m, d2, xs, rfl, rfl, hk, hm, HX, HW, HE⟩ := hrel
      by_cases hkn : k < n
      · have hkl : k < l.length := by have := HN.out; omega
        obtain ⟨g, o, rfl, e0, e1⟩ := elR (H.out.since stR HW.out.2) hkl
        have hst := HE.out
        have hbz := HF.out l[k] (List.getElem_mem hkl)
        rw [drop_at hkl, withoutF, ← List.append_assoc, wo] at hst
        generalize l[k] = y at *
        obtain ⟨lo0, hi0⟩ := y
        simp only [mx] at hst e0 e1 hbz
        have ka := Lib.hid (since_alloc wr (.cells #[.int .i64 lo0, .int .i64 hi0] 49))
        have ST := Lib.hid hst
        have WB := Lib.hid (HW.out.since ka.out)
        obtain ⟨r0, r1⟩ := (Bx.fresh wr #[.int .i64 lo0, .int .i64 hi0] 49).two
        have hlx : xs.length ≤ 8000000 := by have := HX.out; omega
        have hgs : (wr.alloc (.cells #[.int .i64 lo0, .int .i64 hi0] 49)).heap.size = wr.heap.size + 1 := by simp
        have QQ := Lib.hid (fun a b => (Bx.fresh (wr.alloc (.cells #[.int .i64 lo0, .int .i64 hi0] 49)) #[.int .i64 a, .int .i64 b] 49).two)
        rw [hgs] at QQ
        clear hst hkl HE hgs
        by_cases c0 : x < lo0 ∨ x > hi0
        · have HE := Lib.hid (show xs ++ [(lo0, hi0)] ++ withoutF (l.drop (k + 1)) x = R by rw [← ST.out, if_pos c0])
          rcases Classical.em (x < lo0) with c1 | c1
          · clear c0
            go_wp2_with (at_builtin; refine wpList_app (WB.out.since (since_alloc _ _)) (by omega) (lo0, hi0) (wr.heap.size + 1) 1 (QQ.out _ _).1 (QQ.out _ _).2 (by rfl) _ _ rfl rfl rfl ?_; intro A3 c3 w2 h2 q2; rw [HX.out] at h2; obtain ⟨r0, r1⟩ := (Keep.box HW.out (q2.pre (since_alloc _ _))).two)
            go_roundw
            case rel => exact ⟨k + 1, A3, m + 1, c3, _, by go_num, by first | rfl | rw [HX.out] | rw [List.length_append, HX.out]; rfl, by omega, by omega, by rw [List.length_append, HX.out]; rfl, h2, HE.out⟩
            case measure => simp [intOf]; omega
          · have c2 : x > hi0 := c0.resolve_left c1
            clear c0
            go_wp2_with (at_builtin; refine wpList_app (WB.out.since (since_alloc _ _)) (by omega) (lo0, hi0) (wr.heap.size + 1) 1 (QQ.out _ _).1 (QQ.out _ _).2 (by rfl) _ _ rfl rfl rfl ?_; intro A3 c3 w2 h2 q2; rw [HX.out] at h2; obtain ⟨r0, r1⟩ := (Keep.box HW.out (q2.pre (since_alloc _ _))).two)
            go_roundw
            case rel => exact ⟨k + 1, A3, m + 1, c3, _, by go_num, by first | rfl | rw [HX.out] | rw [List.length_append, HX.out]; rfl, by omega, by omega, by rw [List.length_append, HX.out]; rfl, h2, HE.out⟩
            case measure => simp [intOf]; omega
        · have HE0 := Lib.hid (show xs ++ one lo0 (x - 1) ++ one (x + 1) hi0 ++ withoutF (l.drop (k + 1)) x = R by rw [← ST.out, if_neg c0, List.append_assoc xs])
          have c1 : ¬ x < lo0 := fun h => c0 (.inl h)
          have c2 : ¬ x > hi0 := fun h => c0 (.inr h)
          clear c0
          by_cases c3 : lo0 < x
          · have HA := Lib.hid (show one lo0 (x - 1) = [(lo0, x - 1)] from if_pos (by omega))
            by_cases c4 : x < hi0
            · have HE := Lib.hid (show xs ++ [(lo0, x - 1)] ++ [(x + 1, hi0)] ++ withoutF (l.drop (k + 1)) x = R by rw [← HA.out, ← show one (x + 1) hi0 = [(x + 1, hi0)] from if_pos (by omega)]; exact HE0.out)
              clear HE0 HA
              go_wp2_with (first | (at_builtin; refine wpList_app (WB.out.since (since_alloc _ _)) (by omega) (lo0, x - 1) (wr.heap.size + 1) 1 (QQ.out _ _).1 (QQ.out _ _).2 (by rfl) _ _ rfl rfl rfl ?_; intro A3 c3 w2 h2 q2; obtain ⟨r0, r1⟩ := (Keep.box HW.out (q2.pre (since_alloc _ _))).two) | (at_builtin; refine wpList_app (h2.since (since_alloc _ _)) (by rw [List.length_append, HX.out]; show m + 1 ≤ _; omega) (x + 1, hi0) w2.heap.size 1 (Bx.fresh w2 _ _).two.1 (Bx.fresh w2 _ _).two.2 (by rfl) _ _ rfl rfl rfl ?_; intro A4 c4 w4 h4 _; rw [List.length_append, HX.out] at h4))
              go_roundw
              case rel => exact ⟨k + 1, A4, m + 1 + 1, c4, _, by go_num, by first | rfl | rw [HX.out] | rw [List.length_append, HX.out]; rfl, by omega, by omega, by rw [List.length_append, List.length_append, HX.out]; rfl, h4, HE.out⟩
              case measure => simp [intOf]; omega
            · have HE := Lib.hid (show xs ++ [(lo0, x - 1)] ++ withoutF (l.drop (k + 1)) x = R by have := HE0.out; rw [HA.out, show one (x + 1) hi0 = [] from if_neg (by omega), List.append_nil] at this; exact this)
              clear HE0 HA
              go_wp2_with (at_builtin; refine wpList_app (WB.out.since (since_alloc _ _)) (by omega) (lo0, x - 1) (wr.heap.size + 1) 1 (QQ.out _ _).1 (QQ.out _ _).2 (by rfl) _ _ rfl rfl rfl ?_; intro A3 c3 w2 h2 q2; rw [HX.out] at h2; obtain ⟨r0, r1⟩ := (Keep.box HW.out (q2.pre (since_alloc _ _))).two)
              go_roundw
              case rel => exact ⟨k + 1, A3, m + 1, c3, _, by go_num, by first | rfl | rw [HX.out] | rw [List.length_append, HX.out]; rfl, by omega, by omega, by rw [List.length_append, HX.out]; rfl, h2, HE.out⟩
              case measure => simp [intOf]; omega
          · have HA := Lib.hid (show one lo0 (x - 1) = [] from if_neg (by omega))
            by_cases c4 : x < hi0
            · have HE := Lib.hid (show xs ++ [(x + 1, hi0)] ++ withoutF (l.drop (k + 1)) x = R by have := HE0.out; rw [HA.out, show one (x + 1) hi0 = [(x + 1, hi0)] from if_pos (by omega), List.append_nil] at this; exact this)
              clear HE0 HA
              go_wp2_with (at_builtin; refine wpList_app (WB.out.since (since_alloc _ _)) (by omega) (x + 1, hi0) (wr.heap.size + 1) 1 (QQ.out _ _).1 (QQ.out _ _).2 (by rfl) _ _ rfl rfl rfl ?_; intro A3 c3 w2 h2 q2; rw [HX.out] at h2; obtain ⟨r0, r1⟩ := (Keep.box HW.out (q2.pre (since_alloc _ _))).two)
              go_roundw
              case rel => exact ⟨k + 1, A3, m + 1, c3, _, by go_num, by first | rfl | rw [HX.out] | rw [List.length_append, HX.out]; rfl, by omega, by omega, by rw [List.length_append, HX.out]; rfl, h2, HE.out⟩
              case measure => simp [intOf]; omega
            · have HE := Lib.hid (show xs ++ withoutF (l.drop (k + 1)) x = R by have := HE0.out; rw [HA.out, show one (x + 1) hi0 = [] from if_neg (by omega), List.append_nil, List.append_nil] at this; exact this)
              clear HE0 HA
              go_wp2
              go_roundw
              case rel => exact ⟨k + 1, A2, m, d2, _, by go_num, by first | rfl | rw [HX.out] | rw [List.length_append, HX.out]; rfl, by omega, by omega, HX.out, WB.out, HE.out⟩
              case measure => simp [intOf]; omega
      · obtain rfl : k = n := by omega
        have HE2 := Lib.hid (show xs = R by rw [← HE.out, List.drop_of_length_le (by have := HN.out; omega)]; simp [withoutF])
        go_wp2
        go_ret
        exact .of HE2.out HX.out HW.out
end Go.Proofs.Ytoegbgkgenjplaa.Zs
end
