/- Layer 13 (reify): the landed Narrow. -/
import Derived.Test.YtoegbgkgenjplaaWf
namespace Go.Proofs.Ytoegbgkgenjplaa.Rf
open Go.RowKit
set_option linter.unusedVariables false
set_option linter.unusedSimpArgs false
open Go.Proofs.Ytoegbgkgenjplaa.Dig Go.Proofs.Ytoegbgkgenjplaa.Lx Go.Proofs.Ytoegbgkgenjplaa.Tk Go.Proofs.Ytoegbgkgenjplaa.Ti Go.Proofs.Ytoegbgkgenjplaa.Zs Go.Proofs.Ytoegbgkgenjplaa.Tr Go.Proofs.Ytoegbgkgenjplaa.Sn Go.Proofs.Ytoegbgkgenjplaa.Ln
set_option maxRecDepth 20000 in
set_option maxHeartbeats 4000000 in
theorem reify_any (v vd : Value) (c : Cn) (ds : Ln.Ds) (w : World) (h : ConAt w v c) (hd : Sl 1 QD w vd ds) (hs : SzM ⟨ds, [c], 0, 0⟩) :
    Calls Try.prog 33 #[v, vd] w (RetNr (reiO c ds) w) := by
  have FT := Lib.hid (fun W (k : Since w W) => rfit1_any v vd c ds W (h.since k) (hd.since stD k) hs)
  cases hm : modOk ⟨ds, [c], 0, 0⟩ with
  | false =>
    rw [hm] at FT
    rw [reiO_no hm]
    clear hm
    obtain ⟨vx, vy, rfl, h1, h2⟩ := h
    obtain ⟨ck, cx, ca, cc⟩ := c
    simp only at *
    obtain ⟨X, xc, rfl⟩ := h1.form
    obtain ⟨Y, yc, rfl⟩ := h2.form
    obtain ⟨D, dc, rfl⟩ := hd.form
    generalize hnx : cx.length = nx at *
    generalize hny : ca.length = ny at *
    generalize hnd : List.length ds = nd at *
    have ka := Lib.hid (since_alloc w (.cells #[.int .i64 ck, .slice X nx xc, .slice Y ny yc, .int .i64 cc] 25))
    have BC := Lib.hid (Bx.fresh w #[.int .i64 ck, .slice X nx xc, .slice Y ny yc, .int .i64 cc] 25)
    obtain ⟨b0, b1, b2, b3⟩ := bx4 BC.out
    clear h1 h2 hd hs hnx hny hnd
    go_enter Try.func33, Try.ntmps33
    go_wp2_with (go_at_call 68; (with_reducible refine (FT.out _ ka.out).mono ?_); rintro e w1 ⟨rfl, k1, -⟩; have K1 := Lib.hid (ka.out.trans k1); have L1 := Lib.hid k1; obtain ⟨b0, b1, b2, b3⟩ := bx4 (BC.out.since k1); clear k1)
    go_ret2
    exact rnr_no K1.out
  | true =>
  rw [hm] at FT
  by_cases hk : 4 ≤ c.k ∧ c.k ≤ 6
  case neg =>
    rw [reiO_know hm hk]
    clear hm
    obtain ⟨vx, vy, rfl, h1, h2⟩ := h
    obtain ⟨ck, cx, ca, cc⟩ := c
    simp only at *
    obtain ⟨X, xc, rfl⟩ := h1.form
    obtain ⟨Y, yc, rfl⟩ := h2.form
    obtain ⟨D, dc, rfl⟩ := hd.form
    generalize hnx : cx.length = nx at *
    generalize hny : ca.length = ny at *
    generalize hnd : List.length ds = nd at *
    have ka := Lib.hid (since_alloc w (.cells #[.int .i64 ck, .slice X nx xc, .slice Y ny yc, .int .i64 cc] 25))
    have BC := Lib.hid (Bx.fresh w #[.int .i64 ck, .slice X nx xc, .slice Y ny yc, .int .i64 cc] 25)
    obtain ⟨b0, b1, b2, b3⟩ := bx4 BC.out
    clear h1 h2 hd hs hnx hny hnd
    by_cases c1 : ck < 4
    · clear hk
      go_enter Try.func33, Try.ntmps33
      go_wp2_with (go_at_call 68; (with_reducible refine (FT.out _ ka.out).mono ?_); rintro e w1 ⟨rfl, k1, -⟩; have K1 := Lib.hid (ka.out.trans k1); have L1 := Lib.hid k1; obtain ⟨b0, b1, b2, b3⟩ := bx4 (BC.out.since k1); clear k1)
      go_ret2
      exact rnr_no K1.out
    · have c2 : ck > 6 := by omega
      clear hk
      go_enter Try.func33, Try.ntmps33
      go_wp2_with (go_at_call 68; (with_reducible refine (FT.out _ ka.out).mono ?_); rintro e w1 ⟨rfl, k1, -⟩; have K1 := Lib.hid (ka.out.trans k1); have L1 := Lib.hid k1; obtain ⟨b0, b1, b2, b3⟩ := bx4 (BC.out.since k1); clear k1)
      go_ret2
      exact rnr_no K1.out
  obtain ⟨m1, m2, m3⟩ := mod_parts hm
  have hp := flg_parts m1 m3 hk
  have hxne : c.x ≠ [] := by intro e; have := hp.len; rw [e] at this; simp at this
  have FO := Lib.hid (fun W (k : Since w W) => flagOf_any v c W (h.since k) hxne (by have := hp.lin.x32; omega))
  have hgd := m1.at_ hp.inx.2
  obtain ⟨F, hF⟩ : ∃ F : Nat, fl c.x = (F : Int) := ⟨(fl c.x).toNat, by have := hp.inx; omega⟩
  have hFl : F < ds.length := by have := hp.inx; omega
  rw [hF] at FO
  have hdd : domAt ds (fl c.x) = ds[F] := by rw [hF]; exact domAt_lt (by exact hFl)
  obtain ⟨DA, dc0, rfl⟩ := hd.form
  obtain ⟨bd, od, B, dB, rfl, hS, e0⟩ := elD hd hFl
  rw [← hdd] at hS e0
  have HE := Lib.hid e0
  have ON := Lib.hid (fun W (k : Since w W) n => isOnly_any hS hgd.1 n W k)
  have hFn : F < List.length ds := hFl
  clear hS e0 hdd hgd hxne
  have t1 := hp.tr
  rcases t1 with h0 | h0 | h0
  · have DN := Lib.hid (fun W (k : Since w W) R0 hR0 => deny_any v _ c ds W (h.since k) (hd.since stD k) hm hk h0 R0 hR0)
    obtain ⟨R0, hR0⟩ : ∃ R0, R0 = if c.k = 4 then narL 3 c.c c.a c.x ds else if c.k = 5 then narL 2 (-c.c - 1) (neg c.a) c.x ds else some ds := ⟨_, rfl⟩
    have DN := Lib.hid (fun W k => DN.out W k R0 hR0)
    rw [h0] at ON HE
    have ON1 := Lib.hid (fun W k => ON.out W k 1)
    have ON0 := Lib.hid (fun W k => ON.out W k 0)
    rw [reiO_is hm hk (R := R0) (by rw [reiL, h0, if_neg (by decide), if_pos rfl, hR0])]
    simp only [show decide ([((0 : Int), (0 : Int))] = [(1, 1)]) = false from rfl, show decide ([((0 : Int), (0 : Int))] = [(0, 0)]) = true from rfl, List.length_cons, List.length_nil, Nat.zero_add] at ON1 ON0 HE
    clear hR0 m1 m2 m3 hm hp ON h0
    obtain ⟨vx, vy, rfl, h1, h2⟩ := h
    obtain ⟨ck, cx, ca, cc⟩ := c
    simp only at *
    obtain ⟨X, xc, rfl⟩ := h1.form
    obtain ⟨Y, yc, rfl⟩ := h2.form
    generalize hnx : cx.length = nx at *
    generalize hny : ca.length = ny at *
    generalize hnd : List.length ds = nd at *
    have ka := Lib.hid (since_alloc w (.cells #[.int .i64 ck, .slice X nx xc, .slice Y ny yc, .int .i64 cc] 25))
    have BC := Lib.hid (Bx.fresh w #[.int .i64 ck, .slice X nx xc, .slice Y ny yc, .int .i64 cc] 25)
    obtain ⟨b0, b1, b2, b3⟩ := bx4 BC.out
    clear h1 h2 hd hs hnx hny hnd hF hFl
    cases R0 with
    | none =>
      simp only [Option.isSome_none, Option.isSome_some, Bool.false_eq_true, if_false, if_true] at DN ⊢
      unfold RetNr at DN
      simp only at DN
      go_enter Try.func33, Try.ntmps33
      go_wp2_with (first | (go_at_call 68; (with_reducible refine (FT.out _ ka.out).mono ?_); rintro e w1 ⟨rfl, k1, -⟩; have K1 := Lib.hid (ka.out.trans k1); have L1 := Lib.hid k1; obtain ⟨b0, b1, b2, b3⟩ := bx4 (BC.out.since k1); clear k1) | (go_at_call 69; (with_reducible refine (FO.out _ K1.out).mono ?_); rintro e w2 ⟨rfl, k2, -⟩; have L2 := Lib.hid (L1.out.trans k2); have K2 := Lib.hid (K1.out.trans k2); obtain ⟨b0, b1, b2, b3⟩ := bx4 (BC.out.since L2.out); have cf := (K2.out.cell _ (World.block_lt_of_cell? _ _ HE.out)).trans HE.out; clear k2) | (go_at_call 70; (with_reducible refine (ON1.out _ K2.out).mono ?_); rintro e w3 ⟨rfl, k3, -⟩; have L3 := Lib.hid (L2.out.trans k3); have K3 := Lib.hid (K2.out.trans k3); obtain ⟨b0, b1, b2, b3⟩ := bx4 (BC.out.since L3.out); clear k3) | (go_at_call 70; (with_reducible refine (ON0.out _ K3.out).mono ?_); rintro e w4 ⟨rfl, k4, -⟩; have L4 := Lib.hid (L3.out.trans k4); have K4 := Lib.hid (K3.out.trans k4); obtain ⟨b0, b1, b2, b3⟩ := bx4 (BC.out.since L4.out); clear k4) | (go_at_call 72; (with_reducible refine (DN.out _ K4.out).mono ?_); rintro e w5 ⟨k5, rfl⟩; have K5 := Lib.hid (K4.out.trans k5); clear k5))
      go_ret2
      exact rnr_no K5.out
    | some E =>
      simp only [Option.isSome_none, Option.isSome_some, Bool.false_eq_true, if_false, if_true] at DN ⊢
      unfold RetNr at DN
      simp only at DN
      go_enter Try.func33, Try.ntmps33
      go_wp2_with (first | (go_at_call 68; (with_reducible refine (FT.out _ ka.out).mono ?_); rintro e w1 ⟨rfl, k1, -⟩; have K1 := Lib.hid (ka.out.trans k1); have L1 := Lib.hid k1; obtain ⟨b0, b1, b2, b3⟩ := bx4 (BC.out.since k1); clear k1) | (go_at_call 69; (with_reducible refine (FO.out _ K1.out).mono ?_); rintro e w2 ⟨rfl, k2, -⟩; have L2 := Lib.hid (L1.out.trans k2); have K2 := Lib.hid (K1.out.trans k2); obtain ⟨b0, b1, b2, b3⟩ := bx4 (BC.out.since L2.out); have cf := (K2.out.cell _ (World.block_lt_of_cell? _ _ HE.out)).trans HE.out; clear k2) | (go_at_call 70; (with_reducible refine (ON1.out _ K2.out).mono ?_); rintro e w3 ⟨rfl, k3, -⟩; have L3 := Lib.hid (L2.out.trans k3); have K3 := Lib.hid (K2.out.trans k3); obtain ⟨b0, b1, b2, b3⟩ := bx4 (BC.out.since L3.out); clear k3) | (go_at_call 70; (with_reducible refine (ON0.out _ K3.out).mono ?_); rintro e w4 ⟨rfl, k4, -⟩; have L4 := Lib.hid (L3.out.trans k4); have K4 := Lib.hid (K3.out.trans k4); obtain ⟨b0, b1, b2, b3⟩ := bx4 (BC.out.since L4.out); clear k4) | (go_at_call 72; (with_reducible refine (DN.out _ K4.out).mono ?_); rintro e w5 ⟨k5, g, n, rfl, hg1, hg2, hD5⟩; have K5 := Lib.hid (K4.out.trans k5); have D5 := Lib.hid (hD5.low K4.out.size); have G5 := Lib.hid (And.intro (Nat.le_trans K4.out.size hg1) hg2); clear k5 hg1 hg2 hD5))
      go_ret2
      exact rnr_yes K5.out G5.out.1 G5.out.2 D5.out
  · have DM := Lib.hid (fun W (k : Since w W) R0 hR0 => demand_any v _ c ds W (h.since k) (hd.since stD k) hm hk R0 hR0)
    obtain ⟨R0, hR0⟩ : ∃ R0, R0 = if c.k = 4 then narL 1 c.c c.a c.x ds else narL 2 c.c c.a c.x ds := ⟨_, rfl⟩
    have DM := Lib.hid (fun W k => DM.out W k R0 hR0)
    rw [h0] at ON HE
    have ON1 := Lib.hid (fun W k => ON.out W k 1)
    rw [reiO_is hm hk (R := R0) (by rw [reiL, h0, if_pos rfl, hR0])]
    simp only [show decide ([((1 : Int), (1 : Int))] = [(1, 1)]) = true from rfl, List.length_cons, List.length_nil, Nat.zero_add] at ON1 HE
    clear hR0 m1 m2 m3 hm hp ON h0
    obtain ⟨vx, vy, rfl, h1, h2⟩ := h
    obtain ⟨ck, cx, ca, cc⟩ := c
    simp only at *
    obtain ⟨X, xc, rfl⟩ := h1.form
    obtain ⟨Y, yc, rfl⟩ := h2.form
    generalize hnx : cx.length = nx at *
    generalize hny : ca.length = ny at *
    generalize hnd : List.length ds = nd at *
    have ka := Lib.hid (since_alloc w (.cells #[.int .i64 ck, .slice X nx xc, .slice Y ny yc, .int .i64 cc] 25))
    have BC := Lib.hid (Bx.fresh w #[.int .i64 ck, .slice X nx xc, .slice Y ny yc, .int .i64 cc] 25)
    obtain ⟨b0, b1, b2, b3⟩ := bx4 BC.out
    clear h1 h2 hd hs hnx hny hnd hF hFl
    cases R0 with
    | none =>
      simp only [Option.isSome_none, Option.isSome_some, Bool.false_eq_true, if_false, if_true] at DM ⊢
      unfold RetNr at DM
      simp only at DM
      go_enter Try.func33, Try.ntmps33
      go_wp2_with (first | (go_at_call 68; (with_reducible refine (FT.out _ ka.out).mono ?_); rintro e w1 ⟨rfl, k1, -⟩; have K1 := Lib.hid (ka.out.trans k1); have L1 := Lib.hid k1; obtain ⟨b0, b1, b2, b3⟩ := bx4 (BC.out.since k1); clear k1) | (go_at_call 69; (with_reducible refine (FO.out _ K1.out).mono ?_); rintro e w2 ⟨rfl, k2, -⟩; have L2 := Lib.hid (L1.out.trans k2); have K2 := Lib.hid (K1.out.trans k2); obtain ⟨b0, b1, b2, b3⟩ := bx4 (BC.out.since L2.out); have cf := (K2.out.cell _ (World.block_lt_of_cell? _ _ HE.out)).trans HE.out; clear k2) | (go_at_call 70; (with_reducible refine (ON1.out _ K2.out).mono ?_); rintro e w3 ⟨rfl, k3, -⟩; have L3 := Lib.hid (L2.out.trans k3); have K3 := Lib.hid (K2.out.trans k3); obtain ⟨b0, b1, b2, b3⟩ := bx4 (BC.out.since L3.out); clear k3) | (go_at_call 71; (with_reducible refine (DM.out _ K3.out).mono ?_); rintro e w5 ⟨k5, rfl⟩; have K5 := Lib.hid (K3.out.trans k5); clear k5))
      go_ret2
      exact rnr_no K5.out
    | some E =>
      simp only [Option.isSome_none, Option.isSome_some, Bool.false_eq_true, if_false, if_true] at DM ⊢
      unfold RetNr at DM
      simp only at DM
      go_enter Try.func33, Try.ntmps33
      go_wp2_with (first | (go_at_call 68; (with_reducible refine (FT.out _ ka.out).mono ?_); rintro e w1 ⟨rfl, k1, -⟩; have K1 := Lib.hid (ka.out.trans k1); have L1 := Lib.hid k1; obtain ⟨b0, b1, b2, b3⟩ := bx4 (BC.out.since k1); clear k1) | (go_at_call 69; (with_reducible refine (FO.out _ K1.out).mono ?_); rintro e w2 ⟨rfl, k2, -⟩; have L2 := Lib.hid (L1.out.trans k2); have K2 := Lib.hid (K1.out.trans k2); obtain ⟨b0, b1, b2, b3⟩ := bx4 (BC.out.since L2.out); have cf := (K2.out.cell _ (World.block_lt_of_cell? _ _ HE.out)).trans HE.out; clear k2) | (go_at_call 70; (with_reducible refine (ON1.out _ K2.out).mono ?_); rintro e w3 ⟨rfl, k3, -⟩; have L3 := Lib.hid (L2.out.trans k3); have K3 := Lib.hid (K2.out.trans k3); obtain ⟨b0, b1, b2, b3⟩ := bx4 (BC.out.since L3.out); clear k3) | (go_at_call 71; (with_reducible refine (DM.out _ K3.out).mono ?_); rintro e w5 ⟨k5, g, n, rfl, hg1, hg2, hD5⟩; have K5 := Lib.hid (K3.out.trans k5); have D5 := Lib.hid (hD5.low K3.out.size); have G5 := Lib.hid (And.intro (Nat.le_trans K3.out.size hg1) hg2); clear k5 hg1 hg2 hD5))
      go_ret2
      exact rnr_yes K5.out G5.out.1 G5.out.2 D5.out
  · have DC := Lib.hid (fun W (k : Since w W) => decide_any v _ c ds W (h.since k) (hd.since stD k) hm hk)
    rw [h0] at ON HE
    have ON1 := Lib.hid (fun W k => ON.out W k 1)
    have ON0 := Lib.hid (fun W k => ON.out W k 0)
    obtain ⟨E, hE⟩ : ∃ E, E = ds.set (fl c.x).toNat (dcd c.k c.c (lsum (tms c.a c.x ds)) (gsum (tms c.a c.x ds)) (domAt ds (fl c.x))) := ⟨_, rfl⟩
    rw [← hE] at DC
    rw [reiO_is hm hk (R := some E) (by rw [reiL, if_neg (by rw [h0]; decide), if_neg (by rw [h0]; decide), hE])]
    simp only [show decide ([((0 : Int), (1 : Int))] = [(1, 1)]) = false from rfl, show decide ([((0 : Int), (1 : Int))] = [(0, 0)]) = false from rfl, List.length_cons, List.length_nil, Nat.zero_add] at ON1 ON0 HE
    clear hE m1 m2 m3 hm hp ON h0
    obtain ⟨vx, vy, rfl, h1, h2⟩ := h
    obtain ⟨ck, cx, ca, cc⟩ := c
    simp only at *
    obtain ⟨X, xc, rfl⟩ := h1.form
    obtain ⟨Y, yc, rfl⟩ := h2.form
    generalize hnx : cx.length = nx at *
    generalize hny : ca.length = ny at *
    generalize hnd : List.length ds = nd at *
    have ka := Lib.hid (since_alloc w (.cells #[.int .i64 ck, .slice X nx xc, .slice Y ny yc, .int .i64 cc] 25))
    have BC := Lib.hid (Bx.fresh w #[.int .i64 ck, .slice X nx xc, .slice Y ny yc, .int .i64 cc] 25)
    obtain ⟨b0, b1, b2, b3⟩ := bx4 BC.out
    clear h1 h2 hd hs hnx hny hnd hF hFl
    simp only [Option.isSome_some, if_true]
    go_enter Try.func33, Try.ntmps33
    go_wp2_with (first | (go_at_call 68; (with_reducible refine (FT.out _ ka.out).mono ?_); rintro e w1 ⟨rfl, k1, -⟩; have K1 := Lib.hid (ka.out.trans k1); have L1 := Lib.hid k1; obtain ⟨b0, b1, b2, b3⟩ := bx4 (BC.out.since k1); clear k1) | (go_at_call 69; (with_reducible refine (FO.out _ K1.out).mono ?_); rintro e w2 ⟨rfl, k2, -⟩; have L2 := Lib.hid (L1.out.trans k2); have K2 := Lib.hid (K1.out.trans k2); obtain ⟨b0, b1, b2, b3⟩ := bx4 (BC.out.since L2.out); have cf := (K2.out.cell _ (World.block_lt_of_cell? _ _ HE.out)).trans HE.out; clear k2) | (go_at_call 70; (with_reducible refine (ON1.out _ K2.out).mono ?_); rintro e w3 ⟨rfl, k3, -⟩; have L3 := Lib.hid (L2.out.trans k3); have K3 := Lib.hid (K2.out.trans k3); obtain ⟨b0, b1, b2, b3⟩ := bx4 (BC.out.since L3.out); clear k3) | (go_at_call 70; (with_reducible refine (ON0.out _ K3.out).mono ?_); rintro e w4 ⟨rfl, k4, -⟩; have L4 := Lib.hid (L3.out.trans k4); have K4 := Lib.hid (K3.out.trans k4); obtain ⟨b0, b1, b2, b3⟩ := bx4 (BC.out.since L4.out); clear k4) | (go_at_call 73; (with_reducible refine (DC.out _ K4.out).mono ?_); rintro e w5 ⟨k5, g, n, rfl, hg1, hg2, hD5⟩; have K5 := Lib.hid (K4.out.trans k5); have D5 := Lib.hid (hD5.low K4.out.size); have G5 := Lib.hid (And.intro (Nat.le_trans K4.out.size hg1) hg2); clear k5 hg1 hg2 hD5))
    go_ret2
    exact rnr_yes K5.out G5.out.1 G5.out.2 D5.out
end Go.Proofs.Ytoegbgkgenjplaa.Rf
