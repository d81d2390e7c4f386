/- Layer 13 (reify): the document's own Narrow. -/
import Derived.Test.YtoegbgkgenjplaaWi
import Derived.Test.YtoegbgkgenjplaaWj
import Derived.Test.YtoegbgkgenjplaaWk
namespace Go.Proofs.Ytoegbgkgenjplaa.Rf
open Go.RowKit
set_option linter.unusedVariables false
set_option linter.unusedSimpArgs false
open Go.Proofs.Ytoegbgkgenjplaa.Dig Go.Proofs.Ytoegbgkgenjplaa.Lx Go.Proofs.Ytoegbgkgenjplaa.Tk Go.Proofs.Ytoegbgkgenjplaa.Ti Go.Proofs.Ytoegbgkgenjplaa.Zs Go.Proofs.Ytoegbgkgenjplaa.Tr Go.Proofs.Ytoegbgkgenjplaa.Sn Go.Proofs.Ytoegbgkgenjplaa.Ln
theorem rn_any (v vd : Value) (c : Cn) (ds : Ln.Ds) (w : World) (h : ConAt w v c) (hd : Sl 1 QD w vd ds) (hm : modOk ⟨ds, [c], 0, 0⟩ = true) (hk : 4 ≤ c.k ∧ c.k ≤ 6) :
    Calls Try.prog 74 #[v, vd] w (RetK (reiL c.k c.c c.a c.x ds) w) := by
  obtain ⟨m1, m2, m3⟩ := mod_parts hm
  have hp := flg_parts m1 m3 hk
  have hlg := lg_le (tms_bt m1 hp.lin.x hp.lin.w)
  rcases hp.tr with h0 | h0 | h0
  · by_cases k5 : c.k = 5
    · exact rn_b2 v vd c ds w h hd hm hk h0 k5
    · exact rn_b v vd c ds w h hd hm hk h0 k5
  · exact rn_a v vd c ds w h hd hm hk h0
  · by_cases k4 : c.k = 4
    · exact rn_c4 v vd c ds w h hd hm hk h0 k4 hlg
    · exact rn_c5 v vd c ds w h hd hm hk h0 k4
set_option maxRecDepth 20000 in
set_option maxHeartbeats 3000000 in
theorem rreify_any (v vd : Value) (c : Cn) (ds : Ln.Ds) (w : World) (h : ConAt w v c) (hd : Sl 1 QD w vd ds) (hs : SzM ⟨ds, [c], 0, 0⟩) (hbd : ∀ d ∈ ds, Bd d) :
    Calls Try.prog 34 #[v, vd] w (RetNd (reiO c ds) w) := by
  have FT := Lib.hid (fun W (k : Since w W) => rfit_any v vd c ds W (h.since k) (hd.since stD k) hs hbd)
  cases hm : modOk ⟨ds, [c], 0, 0⟩ with
  | false =>
    rw [hm] at FT
    rw [reiO_no hm]
    clear hm
    obtain ⟨vx, vy, rfl, h1, h2⟩ := h
    obtain ⟨ck, cx, ca, cc⟩ := c
    simp only at *
    obtain ⟨X, xc, rfl⟩ := h1.form
    obtain ⟨Y, yc, rfl⟩ := h2.form
    obtain ⟨D, dc, rfl⟩ := hd.form
    generalize hnx : cx.length = nx at *
    generalize hny : ca.length = ny at *
    generalize hnd : List.length ds = nd at *
    have ka := Lib.hid (since_alloc w (.cells #[.int .i64 ck, .slice X nx xc, .slice Y ny yc, .int .i64 cc] 25))
    have BC := Lib.hid (Bx.fresh w #[.int .i64 ck, .slice X nx xc, .slice Y ny yc, .int .i64 cc] 25)
    obtain ⟨b0, b1, b2, b3⟩ := bx4 BC.out
    clear h1 h2 hd hs hbd hnx hny hnd
    go_enter Try.func34, Try.ntmps34
    go_wp2_with (go_at_call 26; (with_reducible refine (FT.out _ ka.out).mono ?_); rintro e w1 ⟨rfl, k1, -⟩; have K1 := Lib.hid (ka.out.trans k1); obtain ⟨b0, b1, b2, b3⟩ := bx4 (BC.out.since k1); clear k1)
    go_ret2
    exact .no K1.out
  | true =>
  rw [hm] at FT
  by_cases hk : 4 ≤ c.k ∧ c.k ≤ 6
  case neg =>
    rw [reiO_know hm hk]
    clear hm
    obtain ⟨vx, vy, rfl, h1, h2⟩ := h
    obtain ⟨ck, cx, ca, cc⟩ := c
    simp only at *
    obtain ⟨X, xc, rfl⟩ := h1.form
    obtain ⟨Y, yc, rfl⟩ := h2.form
    obtain ⟨D, dc, rfl⟩ := hd.form
    generalize hnx : cx.length = nx at *
    generalize hny : ca.length = ny at *
    generalize hnd : List.length ds = nd at *
    have ka := Lib.hid (since_alloc w (.cells #[.int .i64 ck, .slice X nx xc, .slice Y ny yc, .int .i64 cc] 25))
    have BC := Lib.hid (Bx.fresh w #[.int .i64 ck, .slice X nx xc, .slice Y ny yc, .int .i64 cc] 25)
    obtain ⟨b0, b1, b2, b3⟩ := bx4 BC.out
    clear h1 h2 hd hs hbd hnx hny hnd
    by_cases c1 : ck < 4
    · clear hk
      go_enter Try.func34, Try.ntmps34
      go_wp2_with (go_at_call 26; (with_reducible refine (FT.out _ ka.out).mono ?_); rintro e w1 ⟨rfl, k1, -⟩; have K1 := Lib.hid (ka.out.trans k1); obtain ⟨b0, b1, b2, b3⟩ := bx4 (BC.out.since k1); clear k1)
      go_ret2
      exact .no K1.out
    · have c2 : ck > 6 := by omega
      clear hk
      go_enter Try.func34, Try.ntmps34
      go_wp2_with (go_at_call 26; (with_reducible refine (FT.out _ ka.out).mono ?_); rintro e w1 ⟨rfl, k1, -⟩; have K1 := Lib.hid (ka.out.trans k1); obtain ⟨b0, b1, b2, b3⟩ := bx4 (BC.out.since k1); clear k1)
      go_ret2
      exact .no K1.out
  obtain ⟨R, hR⟩ : ∃ R, reiL c.k c.c c.a c.x ds = R := ⟨_, rfl⟩
  have NA := Lib.hid (fun W (k : Since w W) => by have := rn_any v vd c ds W (h.since k) (hd.since stD k) hm hk; rw [hR] at this; exact this)
  rw [reiO_is hm hk hR]
  clear hR hm
  unfold RetK at NA
  cases R with
  | none =>
    simp only [Option.isSome_none, Bool.false_eq_true, if_false] at NA ⊢
    obtain ⟨vx, vy, rfl, h1, h2⟩ := h
    obtain ⟨ck, cx, ca, cc⟩ := c
    simp only at *
    obtain ⟨X, xc, rfl⟩ := h1.form
    obtain ⟨Y, yc, rfl⟩ := h2.form
    obtain ⟨D, dc, rfl⟩ := hd.form
    generalize hnx : cx.length = nx at *
    generalize hny : ca.length = ny at *
    generalize hnd : List.length ds = nd at *
    have ka := Lib.hid (since_alloc w (.cells #[.int .i64 ck, .slice X nx xc, .slice Y ny yc, .int .i64 cc] 25))
    have BC := Lib.hid (Bx.fresh w #[.int .i64 ck, .slice X nx xc, .slice Y ny yc, .int .i64 cc] 25)
    obtain ⟨b0, b1, b2, b3⟩ := bx4 BC.out
    clear h1 h2 hd hs hbd hnx hny hnd
    have c1 : ¬ ck < 4 := by omega
    have c2 : ¬ ck > 6 := by omega
    clear hk
    go_enter Try.func34, Try.ntmps34
    go_wp2_with (first | (go_at_call 26; (with_reducible refine (FT.out _ ka.out).mono ?_); rintro e w1 ⟨rfl, k1, -⟩; have K1 := Lib.hid (ka.out.trans k1); obtain ⟨b0, b1, b2, b3⟩ := bx4 (BC.out.since k1); clear k1) | (go_at_call 74; (with_reducible refine (NA.out _ K1.out).mono ?_); rintro e w2 ⟨A2, n2, c2', rfl, h2, k2⟩; have H2 := Lib.hid h2; have K2 := Lib.hid (K1.out.trans k2); clear h2 k2))
    go_ret2
    exact .no K2.out
  | some E =>
    simp only [Option.isSome_some, if_true] at NA ⊢
    obtain ⟨vx, vy, rfl, h1, h2⟩ := h
    obtain ⟨ck, cx, ca, cc⟩ := c
    simp only at *
    obtain ⟨X, xc, rfl⟩ := h1.form
    obtain ⟨Y, yc, rfl⟩ := h2.form
    obtain ⟨D, dc, rfl⟩ := hd.form
    generalize hnx : cx.length = nx at *
    generalize hny : ca.length = ny at *
    generalize hnd : List.length ds = nd at *
    have ka := Lib.hid (since_alloc w (.cells #[.int .i64 ck, .slice X nx xc, .slice Y ny yc, .int .i64 cc] 25))
    have BC := Lib.hid (Bx.fresh w #[.int .i64 ck, .slice X nx xc, .slice Y ny yc, .int .i64 cc] 25)
    obtain ⟨b0, b1, b2, b3⟩ := bx4 BC.out
    clear h1 h2 hd hs hbd hnx hny hnd
    have c1 : ¬ ck < 4 := by omega
    have c2 : ¬ ck > 6 := by omega
    clear hk
    go_enter Try.func34, Try.ntmps34
    go_wp2_with (first | (go_at_call 26; (with_reducible refine (FT.out _ ka.out).mono ?_); rintro e w1 ⟨rfl, k1, -⟩; have K1 := Lib.hid (ka.out.trans k1); obtain ⟨b0, b1, b2, b3⟩ := bx4 (BC.out.since k1); clear k1) | (go_at_call 74; (with_reducible refine (NA.out _ K1.out).mono ?_); rintro e w2 ⟨A2, n2, c2', rfl, h2, k2⟩; have H2 := Lib.hid h2; have K2 := Lib.hid (K1.out.trans k2); clear h2 k2))
    go_ret2
    exact ⟨A2, n2, c2', rfl, (H2.out E rfl).1, (H2.out E rfl).2, K2.out⟩
end Go.Proofs.Ytoegbgkgenjplaa.Rf
