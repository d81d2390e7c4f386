/- Layer 13 (reify): the landed demand and deny. Layer 13 (reify), pure: the least sum is not above the greatest. -/
import Derived.Test.YtoegbgkgenjplaaWd
set_option linter.unusedVariables false
set_option linter.unusedSimpArgs false
section
namespace Go.Proofs.Ytoegbgkgenjplaa.Rf
open Go.RowKit
open Go.Proofs.Ytoegbgkgenjplaa.Dig Go.Proofs.Ytoegbgkgenjplaa.Lx Go.Proofs.Ytoegbgkgenjplaa.Tk Go.Proofs.Ytoegbgkgenjplaa.Ti Go.Proofs.Ytoegbgkgenjplaa.Zs Go.Proofs.Ytoegbgkgenjplaa.Tr Go.Proofs.Ytoegbgkgenjplaa.Sn Go.Proofs.Ytoegbgkgenjplaa.Ln
theorem rnr_no {p : Int} {w w' : World} (k : Since w w') : RetNr (none, p) w (.returned (.tuple #[.slice none 0 0, .int .i64 p])) w' := ⟨k, rfl⟩
theorem rnr_yes {p : Int} {E : Ln.Ds} {g n : Nat} {w w' : World} (k : Since w w') (h1 : w.heap.size ≤ g) (h2 : g < w'.heap.size) (h3 : DAt g n w w' E) : RetNr (some E, p) w (.returned (.tuple #[.slice (some ⟨g, 0, none⟩) n n, .int .i64 p])) w' := ⟨k, g, n, rfl, h1, h2, h3⟩
/-- a sum without its flag, narrowed -/
theorem sum_any {ds : Ln.Ds} {c : Cn} (hm : modOk ⟨ds, [c], 0, 0⟩ = true) (hk : 4 ≤ c.k ∧ c.k ≤ 6) {k : Int} (hk2 : 1 ≤ k ∧ k ≤ 3) {R : Option Ln.Ds} (hR : narL k c.c c.a c.x ds = R) {v vd : Value} {W : World} (hC : ConAt W v ⟨k, c.x.take c.a.length, c.a, c.c⟩) (hD : Sl 1 QD W vd ds) :
    Calls Try.prog 27 #[v, vd] W (RetNr (R, if R.isSome then 0 else 12) W) := by
  obtain ⟨m1, m2, m3⟩ := mod_parts hm
  have hp := flg_parts m1 m3 hk
  have := narrow_any v vd _ ds W hC hD (mod_sz (mod_sum hm hk hk2) (by have := hp.lin.x32; have := hp.len; simp only [List.length_take]; omega))
  rw [narO_sum hm hk hk2, hR] at this
  exact this
set_option maxRecDepth 20000 in
set_option maxHeartbeats 3000000 in
theorem demand_any (v vd : Value) (c : Cn) (ds : Ln.Ds) (w : World) (h : ConAt w v c) (hd : Sl 1 QD w vd ds) (hm : modOk ⟨ds, [c], 0, 0⟩ = true) (hk : 4 ≤ c.k ∧ c.k ≤ 6) (R0 : Option Ln.Ds) (hR0 : R0 = if c.k = 4 then narL 1 c.c c.a c.x ds else narL 2 c.c c.a c.x ds) :
    Calls Try.prog 71 #[v, vd] w (RetNr (R0, if R0.isSome then 0 else 12) w) := by
  have hl : c.a.length ≤ c.x.length := by obtain ⟨m1, m2, m3⟩ := mod_parts hm; have := (flg_parts m1 m3 hk).len; omega
  have WF := Lib.hid (fun W kk (k : Since w W) => withoutFlag_any v c kk W (h.since k) hl)
  have HD := Lib.hid (fun W (k : Since w W) => hd.since stD k)
  by_cases c4 : c.k = 4
  · have RR : ∀ {R}, narL 1 c.c c.a c.x ds = R → R0 = R := fun h => by rw [hR0, if_pos c4, h]
    clear hR0
    obtain ⟨R, hR⟩ : ∃ R, narL 1 c.c c.a c.x ds = R := ⟨_, rfl⟩
    have NA := Lib.hid (fun (W : World) (v' vd' : Value) (hC : ConAt W v' ⟨1, c.x.take c.a.length, c.a, c.c⟩) (hD : Sl 1 QD W vd' ds) => sum_any hm hk (by omega) hR hC hD)
    rw [RR hR]
    clear hR hm hl RR
    obtain ⟨vx, vy, rfl, h1, h2⟩ := h
    obtain ⟨ck, cx, ca, cc⟩ := c
    simp only at *
    obtain ⟨X, xc, rfl⟩ := h1.form
    obtain ⟨Y, yc, rfl⟩ := h2.form
    obtain ⟨D, dc, rfl⟩ := hd.form
    generalize hnx : cx.length = nx at *
    generalize hny : ca.length = ny at *
    generalize hnd : List.length ds = nd at *
    have ka := Lib.hid (since_alloc w (.cells #[.int .i64 ck, .slice X nx xc, .slice Y ny yc, .int .i64 cc] 25))
    have BC := Lib.hid (Bx.fresh w #[.int .i64 ck, .slice X nx xc, .slice Y ny yc, .int .i64 cc] 25)
    obtain ⟨b0, b1, b2, b3⟩ := bx4 BC.out
    clear h1 h2 hd hk hnx hny hnd
    subst c4
    cases R with
    | none =>
      simp only [Option.isSome_none, Option.isSome_some, Bool.false_eq_true, if_false, if_true] at NA ⊢
      unfold RetNr at NA
      simp only at NA
      go_enter Try.func71, Try.ntmps71
      go_wp2_with (first | (go_at_call 105; (with_reducible refine (WF.out _ 1 ka.out).mono ?_); rintro e w1 ⟨v1, rfl, hC1, k1⟩; have C1 := Lib.hid hC1; obtain ⟨vx1, vy1, rfl, -, -⟩ := hC1; have K1 := Lib.hid (ka.out.trans k1); have D1 := Lib.hid (HD.out _ (ka.out.trans k1)); clear k1) | (go_at_call 27; (with_reducible refine (NA.out _ _ _ C1.out D1.out).mono ?_); rintro e w2 ⟨k2, rfl⟩; have K2 := Lib.hid (K1.out.trans k2); clear k2))
      go_ret2
      exact rnr_no K2.out
    | some E =>
      simp only [Option.isSome_none, Option.isSome_some, Bool.false_eq_true, if_false, if_true] at NA ⊢
      unfold RetNr at NA
      simp only at NA
      go_enter Try.func71, Try.ntmps71
      go_wp2_with (first | (go_at_call 105; (with_reducible refine (WF.out _ 1 ka.out).mono ?_); rintro e w1 ⟨v1, rfl, hC1, k1⟩; have C1 := Lib.hid hC1; obtain ⟨vx1, vy1, rfl, -, -⟩ := hC1; have K1 := Lib.hid (ka.out.trans k1); have D1 := Lib.hid (HD.out _ (ka.out.trans k1)); clear k1) | (go_at_call 27; (with_reducible refine (NA.out _ _ _ C1.out D1.out).mono ?_); rintro e w2 ⟨k2, g, n, rfl, hg1, hg2, hD2⟩; have K2 := Lib.hid (K1.out.trans k2); have D2 := Lib.hid (hD2.low K1.out.size); have G2 := Lib.hid (And.intro (Nat.le_trans K1.out.size hg1) hg2); clear k2 hg1 hg2 hD2))
      go_ret2
      exact rnr_yes K2.out G2.out.1 G2.out.2 D2.out
  · have RR : ∀ {R}, narL 2 c.c c.a c.x ds = R → R0 = R := fun h => by rw [hR0, if_neg c4, h]
    clear hR0
    obtain ⟨R, hR⟩ : ∃ R, narL 2 c.c c.a c.x ds = R := ⟨_, rfl⟩
    have NA := Lib.hid (fun (W : World) (v' vd' : Value) (hC : ConAt W v' ⟨2, c.x.take c.a.length, c.a, c.c⟩) (hD : Sl 1 QD W vd' ds) => sum_any hm hk (by omega) hR hC hD)
    rw [RR hR]
    clear hR hm hl RR
    obtain ⟨vx, vy, rfl, h1, h2⟩ := h
    obtain ⟨ck, cx, ca, cc⟩ := c
    simp only at *
    obtain ⟨X, xc, rfl⟩ := h1.form
    obtain ⟨Y, yc, rfl⟩ := h2.form
    obtain ⟨D, dc, rfl⟩ := hd.form
    generalize hnx : cx.length = nx at *
    generalize hny : ca.length = ny at *
    generalize hnd : List.length ds = nd at *
    have ka := Lib.hid (since_alloc w (.cells #[.int .i64 ck, .slice X nx xc, .slice Y ny yc, .int .i64 cc] 25))
    have BC := Lib.hid (Bx.fresh w #[.int .i64 ck, .slice X nx xc, .slice Y ny yc, .int .i64 cc] 25)
    obtain ⟨b0, b1, b2, b3⟩ := bx4 BC.out
    clear h1 h2 hd hk hnx hny hnd
    cases R with
    | none =>
      simp only [Option.isSome_none, Option.isSome_some, Bool.false_eq_true, if_false, if_true] at NA ⊢
      unfold RetNr at NA
      simp only at NA
      go_enter Try.func71, Try.ntmps71
      go_wp2_with (first | (go_at_call 105; (with_reducible refine (WF.out _ 2 ka.out).mono ?_); rintro e w1 ⟨v1, rfl, hC1, k1⟩; have C1 := Lib.hid hC1; obtain ⟨vx1, vy1, rfl, -, -⟩ := hC1; have K1 := Lib.hid (ka.out.trans k1); have D1 := Lib.hid (HD.out _ (ka.out.trans k1)); clear k1) | (go_at_call 27; (with_reducible refine (NA.out _ _ _ C1.out D1.out).mono ?_); rintro e w2 ⟨k2, rfl⟩; have K2 := Lib.hid (K1.out.trans k2); clear k2))
      go_ret2
      exact rnr_no K2.out
    | some E =>
      simp only [Option.isSome_none, Option.isSome_some, Bool.false_eq_true, if_false, if_true] at NA ⊢
      unfold RetNr at NA
      simp only at NA
      go_enter Try.func71, Try.ntmps71
      go_wp2_with (first | (go_at_call 105; (with_reducible refine (WF.out _ 2 ka.out).mono ?_); rintro e w1 ⟨v1, rfl, hC1, k1⟩; have C1 := Lib.hid hC1; obtain ⟨vx1, vy1, rfl, -, -⟩ := hC1; have K1 := Lib.hid (ka.out.trans k1); have D1 := Lib.hid (HD.out _ (ka.out.trans k1)); clear k1) | (go_at_call 27; (with_reducible refine (NA.out _ _ _ C1.out D1.out).mono ?_); rintro e w2 ⟨k2, g, n, rfl, hg1, hg2, hD2⟩; have K2 := Lib.hid (K1.out.trans k2); have D2 := Lib.hid (hD2.low K1.out.size); have G2 := Lib.hid (And.intro (Nat.le_trans K1.out.size hg1) hg2); clear k2 hg1 hg2 hD2))
      go_ret2
      exact rnr_yes K2.out G2.out.1 G2.out.2 D2.out
set_option maxRecDepth 20000 in
set_option maxHeartbeats 3000000 in
theorem deny_any (v vd : Value) (c : Cn) (ds : Ln.Ds) (w : World) (h : ConAt w v c) (hd : Sl 1 QD w vd ds) (hm : modOk ⟨ds, [c], 0, 0⟩ = true) (hk : 4 ≤ c.k ∧ c.k ≤ 6) (h0 : domAt ds (fl c.x) = [(0, 0)]) (R0 : Option Ln.Ds) (hR0 : R0 = if c.k = 4 then narL 3 c.c c.a c.x ds else if c.k = 5 then narL 2 (-c.c - 1) (neg c.a) c.x ds else some ds) :
    Calls Try.prog 72 #[v, vd] w (RetNr (R0, if R0.isSome then 0 else 12) w) := by
  have hl : c.a.length ≤ c.x.length := by obtain ⟨m1, m2, m3⟩ := mod_parts hm; have := (flg_parts m1 m3 hk).len; omega
  have HD := Lib.hid (fun W (k : Since w W) => hd.since stD k)
  by_cases c4 : c.k = 4
  · have WF := Lib.hid (fun W kk (k : Since w W) => withoutFlag_any v c kk W (h.since k) hl)
    have RR : ∀ {R}, narL 3 c.c c.a c.x ds = R → R0 = R := fun h => by rw [hR0, if_pos c4, h]
    clear hR0
    obtain ⟨R, hR⟩ : ∃ R, narL 3 c.c c.a c.x ds = R := ⟨_, rfl⟩
    have NA := Lib.hid (fun (W : World) (v' vd' : Value) (hC : ConAt W v' ⟨3, c.x.take c.a.length, c.a, c.c⟩) (hD : Sl 1 QD W vd' ds) => sum_any hm hk (by omega) hR hC hD)
    rw [RR hR]
    clear hR hm hl RR
    obtain ⟨vx, vy, rfl, h1, h2⟩ := h
    obtain ⟨ck, cx, ca, cc⟩ := c
    simp only at *
    obtain ⟨X, xc, rfl⟩ := h1.form
    obtain ⟨Y, yc, rfl⟩ := h2.form
    obtain ⟨D, dc, rfl⟩ := hd.form
    generalize hnx : cx.length = nx at *
    generalize hny : ca.length = ny at *
    generalize hnd : List.length ds = nd at *
    have ka := Lib.hid (since_alloc w (.cells #[.int .i64 ck, .slice X nx xc, .slice Y ny yc, .int .i64 cc] 25))
    have BC := Lib.hid (Bx.fresh w #[.int .i64 ck, .slice X nx xc, .slice Y ny yc, .int .i64 cc] 25)
    obtain ⟨b0, b1, b2, b3⟩ := bx4 BC.out
    clear h1 h2 hd hk hnx hny hnd h0
    subst c4
    cases R with
    | none =>
      simp only [Option.isSome_none, Option.isSome_some, Bool.false_eq_true, if_false, if_true] at NA ⊢
      unfold RetNr at NA
      simp only at NA
      go_enter Try.func72, Try.ntmps72
      go_wp2_with (first | (go_at_call 105; (with_reducible refine (WF.out _ 3 ka.out).mono ?_); rintro e w1 ⟨v1, rfl, hC1, k1⟩; have C1 := Lib.hid hC1; obtain ⟨vx1, vy1, rfl, -, -⟩ := hC1; have K1 := Lib.hid (ka.out.trans k1); have D1 := Lib.hid (HD.out _ (ka.out.trans k1)); clear k1) | (go_at_call 27; (with_reducible refine (NA.out _ _ _ C1.out D1.out).mono ?_); rintro e w2 ⟨k2, rfl⟩; have K2 := Lib.hid (K1.out.trans k2); clear k2))
      go_ret2
      exact rnr_no K2.out
    | some E =>
      simp only [Option.isSome_none, Option.isSome_some, Bool.false_eq_true, if_false, if_true] at NA ⊢
      unfold RetNr at NA
      simp only at NA
      go_enter Try.func72, Try.ntmps72
      go_wp2_with (first | (go_at_call 105; (with_reducible refine (WF.out _ 3 ka.out).mono ?_); rintro e w1 ⟨v1, rfl, hC1, k1⟩; have C1 := Lib.hid hC1; obtain ⟨vx1, vy1, rfl, -, -⟩ := hC1; have K1 := Lib.hid (ka.out.trans k1); have D1 := Lib.hid (HD.out _ (ka.out.trans k1)); clear k1) | (go_at_call 27; (with_reducible refine (NA.out _ _ _ C1.out D1.out).mono ?_); rintro e w2 ⟨k2, g, n, rfl, hg1, hg2, hD2⟩; have K2 := Lib.hid (K1.out.trans k2); have D2 := Lib.hid (hD2.low K1.out.size); have G2 := Lib.hid (And.intro (Nat.le_trans K1.out.size hg1) hg2); clear k2 hg1 hg2 hD2))
      go_ret2
      exact rnr_yes K2.out G2.out.1 G2.out.2 D2.out
  by_cases c5 : c.k = 5
  · obtain ⟨R, hR⟩ : ∃ R, narL 2 (-c.c - 1) (neg c.a) c.x ds = R := ⟨_, rfl⟩
    have EX := Lib.hid (fun W (k : Since w W) => by have := exceed_any v vd c ds W (h.since k) (hd.since stD k) hm hk h0; rw [hR] at this; exact this)
    rw [show R0 = R by rw [hR0, if_neg c4, if_pos c5, hR]]
    clear hR0 hR hm hl
    obtain ⟨vx, vy, rfl, h1, h2⟩ := h
    obtain ⟨ck, cx, ca, cc⟩ := c
    simp only at *
    obtain ⟨X, xc, rfl⟩ := h1.form
    obtain ⟨Y, yc, rfl⟩ := h2.form
    obtain ⟨D, dc, rfl⟩ := hd.form
    generalize hnx : cx.length = nx at *
    generalize hny : ca.length = ny at *
    generalize hnd : List.length ds = nd at *
    have ka := Lib.hid (since_alloc w (.cells #[.int .i64 ck, .slice X nx xc, .slice Y ny yc, .int .i64 cc] 25))
    have BC := Lib.hid (Bx.fresh w #[.int .i64 ck, .slice X nx xc, .slice Y ny yc, .int .i64 cc] 25)
    obtain ⟨b0, b1, b2, b3⟩ := bx4 BC.out
    unfold RetNr at EX
    clear h1 h2 hd hk hnx hny hnd h0 c4
    subst c5
    cases R with
    | none =>
      simp only [Option.isSome_none, Bool.false_eq_true, if_false] at EX ⊢
      go_enter Try.func72, Try.ntmps72
      go_wp2_with (go_at_call 106; (with_reducible refine (EX.out _ ka.out).mono ?_); rintro e w2 ⟨k2, rfl⟩; have K2 := Lib.hid (ka.out.trans k2); clear k2)
      go_ret2
      exact rnr_no K2.out
    | some E =>
      simp only [Option.isSome_some, if_true] at EX ⊢
      go_enter Try.func72, Try.ntmps72
      go_wp2_with (go_at_call 106; (with_reducible refine (EX.out _ ka.out).mono ?_); rintro e w2 ⟨k2, g, n, rfl, hg1, hg2, hD2⟩; have K2 := Lib.hid (ka.out.trans k2); have D2 := Lib.hid (hD2.low ka.out.size); have G2 := Lib.hid (And.intro (Nat.le_trans ka.out.size hg1) hg2); clear k2 hg1 hg2 hD2)
      go_ret2
      exact rnr_yes K2.out G2.out.1 G2.out.2 D2.out
  · have CO := Lib.hid (fun W (k : Since w W) => by obtain ⟨m1, m2, m3⟩ := mod_parts hm; exact rcopied_any vd ds W (hd.since stD k) (by omega) (fun d hd => right_len (m1 d hd).1))
    rw [show R0 = some ds by rw [hR0, if_neg c4, if_neg c5]]
    clear hR0 hm hl
    obtain ⟨vx, vy, rfl, h1, h2⟩ := h
    obtain ⟨ck, cx, ca, cc⟩ := c
    simp only at *
    obtain ⟨X, xc, rfl⟩ := h1.form
    obtain ⟨Y, yc, rfl⟩ := h2.form
    obtain ⟨D, dc, rfl⟩ := hd.form
    generalize hnx : cx.length = nx at *
    generalize hny : ca.length = ny at *
    generalize hnd : List.length ds = nd at *
    have ka := Lib.hid (since_alloc w (.cells #[.int .i64 ck, .slice X nx xc, .slice Y ny yc, .int .i64 cc] 25))
    have BC := Lib.hid (Bx.fresh w #[.int .i64 ck, .slice X nx xc, .slice Y ny yc, .int .i64 cc] 25)
    obtain ⟨b0, b1, b2, b3⟩ := bx4 BC.out
    clear h1 h2 hd hk hnx hny hnd h0
    simp only [Option.isSome_some, if_true]
    go_enter Try.func72, Try.ntmps72
    go_wp2_with (go_at_call 107; (with_reducible refine (CO.out _ ka.out).mono ?_); rintro e w2 ⟨g, n, rfl, -, hg1, hg2, hD2, k2⟩; have K2 := Lib.hid (ka.out.trans k2); have D2 := Lib.hid (hD2.low ka.out.size); have G2 := Lib.hid (And.intro (Nat.le_trans ka.out.size hg1) hg2); clear k2 hg1 hg2 hD2)
    go_ret2
    exact rnr_yes K2.out G2.out.1 G2.out.2 D2.out
end Go.Proofs.Ytoegbgkgenjplaa.Rf
end
section
namespace Go.Proofs.Ytoegbgkgenjplaa.Rf
open Go.Proofs.Ytoegbgkgenjplaa.Zs Go.Proofs.Ytoegbgkgenjplaa.Sn Go.Proofs.Ytoegbgkgenjplaa.Ln
theorem lg_le : ∀ {ts : List Tm}, (∀ t ∈ ts, Bt t) → lsum ts ≤ gsum ts
  | [], _ => Int.le_refl _
  | t :: ts, h => by
    have h2 := lg_le (ts := ts) fun t' ht => h t' (by simp [ht])
    simp only [lsum, gsum, mnT, mxT]
    omega
theorem alw_nev {k c l g : Int} (h : l ≤ g) : ¬ (alw k c l g = true ∧ nev k c l g = true) := by
  simp only [alw, nev, Bool.or_eq_true, Bool.and_eq_true, decide_eq_true_eq]
  omega
end Go.Proofs.Ytoegbgkgenjplaa.Rf
end
section
namespace Go.Proofs.Ytoegbgkgenjplaa.Zs
open Go.RowKit
open Go.Proofs.Ytoegbgkgenjplaa.Dig Go.Proofs.Ytoegbgkgenjplaa.Lx Go.Proofs.Ytoegbgkgenjplaa.Tk Go.Proofs.Ytoegbgkgenjplaa.Ti
theorem wrap_id {x : Int} (h1 : -9223372036854775808 ≤ x) (h2 : x ≤ 9223372036854775807) : IntKind.i64.wrap x = x := by simp [IntKind.wrap, IntKind.bits, IntKind.signed]; omega
set_option maxRecDepth 20000 in
set_option maxHeartbeats 1000000 in
theorem rhas_any (v : Value) (l : List Rn) (x : Int) (w : World) (h : Sl 2 QR w v l) (hl : l.length ≤ 1100000) (hb : Bd l) :
    Calls Try.prog 55 #[v, .int .i64 x] w (RetT (has l x) w) := by
  obtain ⟨A, c, rfl⟩ := h.form
  obtain ⟨rb, hrb⟩ : ∃ rb, right l = rb := ⟨_, rfl⟩
  have RA := Lib.hid (rright_at h hl hb hrb)
  obtain ⟨R, hR⟩ : ∃ R, R = hasF l x := ⟨_, rfl⟩
  have e : has l x = (rb && R) := by rw [has, hrb, hR]
  rw [e]
  obtain ⟨n, hn⟩ : ∃ n, n = l.length := ⟨_, rfl⟩
  rw [← hn] at h hl RA ⊢
  have H := Lib.hid h
  have HN := Lib.hid hn
  have HR := Lib.hid hR
  clear h hn hb hR e hrb
  go_enter Try.func55, Try.ntmps55
  go_wp2
  go_loopw [5] (fun i wr => ∃ k : Nat, i = .int .i64 (k : Int) ∧ k ≤ n ∧ Hid (hasF (l.drop k) x = R) ∧ Hid (Since w wr)) (fun i _ => n - (intOf i).toNat)
  case atStart => exact ⟨0, rfl, Nat.zero_le _, HR.out.symm, Since.refl _⟩
  case round =>
    obtain ⟨k, rfl, hk, HE, HW⟩ := hrel
    by_cases hkn : k < n
    · have hkl : k < l.length := by have := HN.out; omega
      obtain ⟨g, o, rfl, e0, e1⟩ := elR (H.out.since stR HW.out) hkl
      have hst := HE.out
      rw [drop_at hkl, hasF] at hst
      generalize l[k] = y at *
      obtain ⟨lo, hi⟩ := y
      simp only at hst e0 e1
      have ST := Lib.hid hst
      clear hst hkl HE
      by_cases c1 : x ≥ lo
      · by_cases c2 : x ≤ hi
        · have HE := Lib.hid (show rb = (rb && R) by rw [← ST.out, show decide (lo ≤ x) = true by simpa using c1, show decide (x ≤ hi) = true by simpa using c2]; simp)
          go_wp2_with (go_at_call 57; (with_reducible refine (RA.out _ HW.out).mono ?_); rintro e w1 ⟨rfl, k1⟩)
          go_ret
          exact .of HE.out (HW.out.trans k1)
        · have HE := Lib.hid (show hasF (l.drop (k + 1)) x = R by rw [← ST.out, show decide (x ≤ hi) = false by simpa using c2]; simp)
          go_wp2
          go_roundw
          case rel => exact ⟨k + 1, by go_num, by omega, HE.out, HW.out⟩
          case measure => simp [intOf]; omega
      · have HE := Lib.hid (show hasF (l.drop (k + 1)) x = R by rw [← ST.out, show decide (lo ≤ x) = false by simpa using c1]; simp)
        go_wp2
        go_roundw
        case rel => exact ⟨k + 1, by go_num, by omega, HE.out, HW.out⟩
        case measure => simp [intOf]; omega
    · obtain rfl : k = n := by omega
      have HE2 := Lib.hid (show false = (rb && R) by rw [← HE.out, List.drop_of_length_le (by have := HN.out; omega)]; simp [hasF])
      go_wp2
      go_ret
      exact .of HE2.out HW.out
end Go.Proofs.Ytoegbgkgenjplaa.Zs
end
