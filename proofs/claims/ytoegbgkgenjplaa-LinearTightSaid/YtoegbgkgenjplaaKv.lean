/- Layer 11 (sense): the document's own Holds. -/
import Derived.Test.YtoegbgkgenjplaaQaz
namespace Go.Proofs.Ytoegbgkgenjplaa.Sn
open Go.RowKit
set_option linter.unusedVariables false
set_option linter.unusedSimpArgs false
open Go.Proofs.Ytoegbgkgenjplaa.Dig Go.Proofs.Ytoegbgkgenjplaa.Lx Go.Proofs.Ytoegbgkgenjplaa.Tk Go.Proofs.Ytoegbgkgenjplaa.Ti Go.Proofs.Ytoegbgkgenjplaa.Zs Go.Proofs.Ytoegbgkgenjplaa.Tr
set_option maxRecDepth 20000 in
set_option maxHeartbeats 3000000 in
theorem rholds1 (v va : Value) (cx ca : List Int) (cc : Int) (a : List Int) (w : World) (h : ConAt w v ⟨1, cx, ca, cc⟩) (ha : Sl 1 QI w va a) (hx : cx.length ≤ 1100000) (hca : ca.length ≤ 1100000) (hla : a.length ≤ 1100000) (hq : asked ⟨1, cx, ca, cc⟩ a = true) :
    Calls Try.prog 17 #[v, va] w (RetT (holdV 1 (vals cx a) ca cc) w) := by
  obtain ⟨hin, hkv⟩ := asked_parts hq
  simp only at hin hkv
  obtain ⟨p1, p2, p3, p4, p5, p6, p7, p8⟩ := askV_all hkv
  have hnx : (vals cx a).length = cx.length := vals_len cx a
  have AK := Lib.hid (fun W (k : Since w W) => by have := rasked_any v va _ a W (h.since k) (ha.since stI k) hx hca hla; rw [hq] at this; exact this)
  have VA := Lib.hid (fun W (k : Since w W) => rvalues_at h ha (by simp only; omega) hin W k)
  have LN := Lib.hid (fun W => rlinear_any 1 W)
  have FN := Lib.hid (fun vv fl W (k : Since w W) (hl1 : Sl 1 QI W vv (vals cx a)) (hf : fl = lastV (vals cx a)) => show Calls Try.prog 47 #[v, vv, .int .i64 fl] W (RetT (holdV 1 (vals cx a) ca cc) W) by subst hf; have hs := shp_num p2 (by decide); have := rlin_any v vv ⟨1, cx, ca, cc⟩ (vals cx a) (lastV (vals cx a)) W (h.since k) hl1 (by simp only; omega) (by simp only; omega) p5 p1 (by show 1 ≤ (1 : Int) ∧ (1 : Int) ≤ 6; decide); simp only at this; rw [hold_lin (by decide) hkv] at this; exact this)
  obtain ⟨vx, vy, rfl, h1, h2⟩ := h
  simp only at *
  obtain ⟨X, xc, rfl⟩ := h1.form
  obtain ⟨Y, yc, rfl⟩ := h2.form
  obtain ⟨A, ac, rfl⟩ := ha.form
  generalize vals cx a = vl at *
  generalize cx.length = nx at *
  generalize ca.length = na at *
  generalize a.length = nl at *
  have ka := Lib.hid (since_alloc w (.cells #[.int .i64 1, .slice X nx xc, .slice Y na yc, .int .i64 cc] 25))
  have BC := Lib.hid (Bx.fresh w #[.int .i64 1, .slice X nx xc, .slice Y na yc, .int .i64 cc] 25)
  have HNX := Lib.hid hnx
  have HLV := Lib.hid (fun (hh : nx - 1 < vl.length) => show vl[nx - 1] = lastV vl by subst hnx; simp [lastV, List.getD, hh])
  clear h1 h2 ha hq hkv p1 p2 p3 p4 p5 p6 p7 p8 hin
  by_cases c0 : nx = 0
  case pos =>
    have HZ := Lib.hid (show (0 : Int) = lastV vl by rw [show vl = [] from List.eq_nil_of_length_eq_zero (by omega)]; rfl)
    subst c0
    clear hnx
    go_enter Try.func17, Try.ntmps17
    go_wp2_with (first | (go_at_call 43; (with_reducible refine (AK.out _ ka.out).mono ?_); rintro e w2 ⟨rfl, k2⟩; have K2 := Lib.hid (ka.out.trans k2); have L2 := Lib.hid k2; clear k2; obtain ⟨b0, b1, b2, b3⟩ := bx4 (BC.out.since L2.out)) | (go_at_call 45; (with_reducible refine (VA.out _ K2.out).mono ?_); rintro e w3 ⟨B, bc, rfl, q1, k3⟩; have K3 := Lib.hid (K2.out.trans k3); have L3 := Lib.hid (L2.out.trans k3); have Q1 := Lib.hid q1.sl; clear q1 k3; obtain ⟨b0, b1, b2, b3⟩ := bx4 (BC.out.since L3.out)) | (go_at_call 42; (with_reducible refine (LN.out _).mono ?_); rintro e w4 ⟨rfl, rfl⟩) | (go_at_call 47; (with_reducible refine (FN.out _ _ _ K3.out Q1.out HZ.out).mono ?_); rintro e w5 ⟨rfl, k5⟩; have K5 := Lib.hid (K3.out.trans k5); clear k5))
    go_ret
    exact RetT.of rfl K5.out
  have c1 : 0 < nx := by omega
  clear hnx
  go_enter Try.func17, Try.ntmps17
  go_wp2_with (first | (go_at_call 43; (with_reducible refine (AK.out _ ka.out).mono ?_); rintro e w2 ⟨rfl, k2⟩; have K2 := Lib.hid (ka.out.trans k2); have L2 := Lib.hid k2; clear k2; obtain ⟨b0, b1, b2, b3⟩ := bx4 (BC.out.since L2.out)) | (go_at_call 45; (with_reducible refine (VA.out _ K2.out).mono ?_); rintro e w3 ⟨B, bc, rfl, q1, k3⟩; have K3 := Lib.hid (K2.out.trans k3); have L3 := Lib.hid (L2.out.trans k3); have Q1 := Lib.hid q1.sl; clear q1 k3; obtain ⟨b0, b1, b2, b3⟩ := bx4 (BC.out.since L3.out); obtain ⟨gb, ob, hB, cl⟩ := elI Q1.out (i := nx - 1) (by have := HNX.out; omega); subst hB; rw [HLV.out] at cl) | (go_at_call 42; (with_reducible refine (LN.out _).mono ?_); rintro e w4 ⟨rfl, rfl⟩) | (go_at_call 47; (with_reducible refine (FN.out _ _ _ K3.out Q1.out rfl).mono ?_); rintro e w5 ⟨rfl, k5⟩; have K5 := Lib.hid (K3.out.trans k5); clear k5))
  go_ret
  exact RetT.of rfl K5.out
set_option maxRecDepth 20000 in
set_option maxHeartbeats 3000000 in
theorem rholds2 (v va : Value) (cx ca : List Int) (cc : Int) (a : List Int) (w : World) (h : ConAt w v ⟨2, cx, ca, cc⟩) (ha : Sl 1 QI w va a) (hx : cx.length ≤ 1100000) (hca : ca.length ≤ 1100000) (hla : a.length ≤ 1100000) (hq : asked ⟨2, cx, ca, cc⟩ a = true) :
    Calls Try.prog 17 #[v, va] w (RetT (holdV 2 (vals cx a) ca cc) w) := by
  obtain ⟨hin, hkv⟩ := asked_parts hq
  simp only at hin hkv
  obtain ⟨p1, p2, p3, p4, p5, p6, p7, p8⟩ := askV_all hkv
  have hnx : (vals cx a).length = cx.length := vals_len cx a
  have AK := Lib.hid (fun W (k : Since w W) => by have := rasked_any v va _ a W (h.since k) (ha.since stI k) hx hca hla; rw [hq] at this; exact this)
  have VA := Lib.hid (fun W (k : Since w W) => rvalues_at h ha (by simp only; omega) hin W k)
  have LN := Lib.hid (fun W => rlinear_any 2 W)
  have FN := Lib.hid (fun vv fl W (k : Since w W) (hl1 : Sl 1 QI W vv (vals cx a)) (hf : fl = lastV (vals cx a)) => show Calls Try.prog 47 #[v, vv, .int .i64 fl] W (RetT (holdV 2 (vals cx a) ca cc) W) by subst hf; have hs := shp_num p2 (by decide); have := rlin_any v vv ⟨2, cx, ca, cc⟩ (vals cx a) (lastV (vals cx a)) W (h.since k) hl1 (by simp only; omega) (by simp only; omega) p5 p1 (by show 1 ≤ (2 : Int) ∧ (2 : Int) ≤ 6; decide); simp only at this; rw [hold_lin (by decide) hkv] at this; exact this)
  obtain ⟨vx, vy, rfl, h1, h2⟩ := h
  simp only at *
  obtain ⟨X, xc, rfl⟩ := h1.form
  obtain ⟨Y, yc, rfl⟩ := h2.form
  obtain ⟨A, ac, rfl⟩ := ha.form
  generalize vals cx a = vl at *
  generalize cx.length = nx at *
  generalize ca.length = na at *
  generalize a.length = nl at *
  have ka := Lib.hid (since_alloc w (.cells #[.int .i64 2, .slice X nx xc, .slice Y na yc, .int .i64 cc] 25))
  have BC := Lib.hid (Bx.fresh w #[.int .i64 2, .slice X nx xc, .slice Y na yc, .int .i64 cc] 25)
  have HNX := Lib.hid hnx
  have HLV := Lib.hid (fun (hh : nx - 1 < vl.length) => show vl[nx - 1] = lastV vl by subst hnx; simp [lastV, List.getD, hh])
  clear h1 h2 ha hq hkv p1 p2 p3 p4 p5 p6 p7 p8 hin
  by_cases c0 : nx = 0
  case pos =>
    have HZ := Lib.hid (show (0 : Int) = lastV vl by rw [show vl = [] from List.eq_nil_of_length_eq_zero (by omega)]; rfl)
    subst c0
    clear hnx
    go_enter Try.func17, Try.ntmps17
    go_wp2_with (first | (go_at_call 43; (with_reducible refine (AK.out _ ka.out).mono ?_); rintro e w2 ⟨rfl, k2⟩; have K2 := Lib.hid (ka.out.trans k2); have L2 := Lib.hid k2; clear k2; obtain ⟨b0, b1, b2, b3⟩ := bx4 (BC.out.since L2.out)) | (go_at_call 45; (with_reducible refine (VA.out _ K2.out).mono ?_); rintro e w3 ⟨B, bc, rfl, q1, k3⟩; have K3 := Lib.hid (K2.out.trans k3); have L3 := Lib.hid (L2.out.trans k3); have Q1 := Lib.hid q1.sl; clear q1 k3; obtain ⟨b0, b1, b2, b3⟩ := bx4 (BC.out.since L3.out)) | (go_at_call 42; (with_reducible refine (LN.out _).mono ?_); rintro e w4 ⟨rfl, rfl⟩) | (go_at_call 47; (with_reducible refine (FN.out _ _ _ K3.out Q1.out HZ.out).mono ?_); rintro e w5 ⟨rfl, k5⟩; have K5 := Lib.hid (K3.out.trans k5); clear k5))
    go_ret
    exact RetT.of rfl K5.out
  have c1 : 0 < nx := by omega
  clear hnx
  go_enter Try.func17, Try.ntmps17
  go_wp2_with (first | (go_at_call 43; (with_reducible refine (AK.out _ ka.out).mono ?_); rintro e w2 ⟨rfl, k2⟩; have K2 := Lib.hid (ka.out.trans k2); have L2 := Lib.hid k2; clear k2; obtain ⟨b0, b1, b2, b3⟩ := bx4 (BC.out.since L2.out)) | (go_at_call 45; (with_reducible refine (VA.out _ K2.out).mono ?_); rintro e w3 ⟨B, bc, rfl, q1, k3⟩; have K3 := Lib.hid (K2.out.trans k3); have L3 := Lib.hid (L2.out.trans k3); have Q1 := Lib.hid q1.sl; clear q1 k3; obtain ⟨b0, b1, b2, b3⟩ := bx4 (BC.out.since L3.out); obtain ⟨gb, ob, hB, cl⟩ := elI Q1.out (i := nx - 1) (by have := HNX.out; omega); subst hB; rw [HLV.out] at cl) | (go_at_call 42; (with_reducible refine (LN.out _).mono ?_); rintro e w4 ⟨rfl, rfl⟩) | (go_at_call 47; (with_reducible refine (FN.out _ _ _ K3.out Q1.out rfl).mono ?_); rintro e w5 ⟨rfl, k5⟩; have K5 := Lib.hid (K3.out.trans k5); clear k5))
  go_ret
  exact RetT.of rfl K5.out
set_option maxRecDepth 20000 in
set_option maxHeartbeats 3000000 in
theorem rholds3 (v va : Value) (cx ca : List Int) (cc : Int) (a : List Int) (w : World) (h : ConAt w v ⟨3, cx, ca, cc⟩) (ha : Sl 1 QI w va a) (hx : cx.length ≤ 1100000) (hca : ca.length ≤ 1100000) (hla : a.length ≤ 1100000) (hq : asked ⟨3, cx, ca, cc⟩ a = true) :
    Calls Try.prog 17 #[v, va] w (RetT (holdV 3 (vals cx a) ca cc) w) := by
  obtain ⟨hin, hkv⟩ := asked_parts hq
  simp only at hin hkv
  obtain ⟨p1, p2, p3, p4, p5, p6, p7, p8⟩ := askV_all hkv
  have hnx : (vals cx a).length = cx.length := vals_len cx a
  have AK := Lib.hid (fun W (k : Since w W) => by have := rasked_any v va _ a W (h.since k) (ha.since stI k) hx hca hla; rw [hq] at this; exact this)
  have VA := Lib.hid (fun W (k : Since w W) => rvalues_at h ha (by simp only; omega) hin W k)
  have LN := Lib.hid (fun W => rlinear_any 3 W)
  have FN := Lib.hid (fun vv fl W (k : Since w W) (hl1 : Sl 1 QI W vv (vals cx a)) (hf : fl = lastV (vals cx a)) => show Calls Try.prog 47 #[v, vv, .int .i64 fl] W (RetT (holdV 3 (vals cx a) ca cc) W) by subst hf; have hs := shp_num p2 (by decide); have := rlin_any v vv ⟨3, cx, ca, cc⟩ (vals cx a) (lastV (vals cx a)) W (h.since k) hl1 (by simp only; omega) (by simp only; omega) p5 p1 (by show 1 ≤ (3 : Int) ∧ (3 : Int) ≤ 6; decide); simp only at this; rw [hold_lin (by decide) hkv] at this; exact this)
  obtain ⟨vx, vy, rfl, h1, h2⟩ := h
  simp only at *
  obtain ⟨X, xc, rfl⟩ := h1.form
  obtain ⟨Y, yc, rfl⟩ := h2.form
  obtain ⟨A, ac, rfl⟩ := ha.form
  generalize vals cx a = vl at *
  generalize cx.length = nx at *
  generalize ca.length = na at *
  generalize a.length = nl at *
  have ka := Lib.hid (since_alloc w (.cells #[.int .i64 3, .slice X nx xc, .slice Y na yc, .int .i64 cc] 25))
  have BC := Lib.hid (Bx.fresh w #[.int .i64 3, .slice X nx xc, .slice Y na yc, .int .i64 cc] 25)
  have HNX := Lib.hid hnx
  have HLV := Lib.hid (fun (hh : nx - 1 < vl.length) => show vl[nx - 1] = lastV vl by subst hnx; simp [lastV, List.getD, hh])
  clear h1 h2 ha hq hkv p1 p2 p3 p4 p5 p6 p7 p8 hin
  by_cases c0 : nx = 0
  case pos =>
    have HZ := Lib.hid (show (0 : Int) = lastV vl by rw [show vl = [] from List.eq_nil_of_length_eq_zero (by omega)]; rfl)
    subst c0
    clear hnx
    go_enter Try.func17, Try.ntmps17
    go_wp2_with (first | (go_at_call 43; (with_reducible refine (AK.out _ ka.out).mono ?_); rintro e w2 ⟨rfl, k2⟩; have K2 := Lib.hid (ka.out.trans k2); have L2 := Lib.hid k2; clear k2; obtain ⟨b0, b1, b2, b3⟩ := bx4 (BC.out.since L2.out)) | (go_at_call 45; (with_reducible refine (VA.out _ K2.out).mono ?_); rintro e w3 ⟨B, bc, rfl, q1, k3⟩; have K3 := Lib.hid (K2.out.trans k3); have L3 := Lib.hid (L2.out.trans k3); have Q1 := Lib.hid q1.sl; clear q1 k3; obtain ⟨b0, b1, b2, b3⟩ := bx4 (BC.out.since L3.out)) | (go_at_call 42; (with_reducible refine (LN.out _).mono ?_); rintro e w4 ⟨rfl, rfl⟩) | (go_at_call 47; (with_reducible refine (FN.out _ _ _ K3.out Q1.out HZ.out).mono ?_); rintro e w5 ⟨rfl, k5⟩; have K5 := Lib.hid (K3.out.trans k5); clear k5))
    go_ret
    exact RetT.of rfl K5.out
  have c1 : 0 < nx := by omega
  clear hnx
  go_enter Try.func17, Try.ntmps17
  go_wp2_with (first | (go_at_call 43; (with_reducible refine (AK.out _ ka.out).mono ?_); rintro e w2 ⟨rfl, k2⟩; have K2 := Lib.hid (ka.out.trans k2); have L2 := Lib.hid k2; clear k2; obtain ⟨b0, b1, b2, b3⟩ := bx4 (BC.out.since L2.out)) | (go_at_call 45; (with_reducible refine (VA.out _ K2.out).mono ?_); rintro e w3 ⟨B, bc, rfl, q1, k3⟩; have K3 := Lib.hid (K2.out.trans k3); have L3 := Lib.hid (L2.out.trans k3); have Q1 := Lib.hid q1.sl; clear q1 k3; obtain ⟨b0, b1, b2, b3⟩ := bx4 (BC.out.since L3.out); obtain ⟨gb, ob, hB, cl⟩ := elI Q1.out (i := nx - 1) (by have := HNX.out; omega); subst hB; rw [HLV.out] at cl) | (go_at_call 42; (with_reducible refine (LN.out _).mono ?_); rintro e w4 ⟨rfl, rfl⟩) | (go_at_call 47; (with_reducible refine (FN.out _ _ _ K3.out Q1.out rfl).mono ?_); rintro e w5 ⟨rfl, k5⟩; have K5 := Lib.hid (K3.out.trans k5); clear k5))
  go_ret
  exact RetT.of rfl K5.out
set_option maxRecDepth 20000 in
set_option maxHeartbeats 3000000 in
theorem rholds4 (v va : Value) (cx ca : List Int) (cc : Int) (a : List Int) (w : World) (h : ConAt w v ⟨4, cx, ca, cc⟩) (ha : Sl 1 QI w va a) (hx : cx.length ≤ 1100000) (hca : ca.length ≤ 1100000) (hla : a.length ≤ 1100000) (hq : asked ⟨4, cx, ca, cc⟩ a = true) :
    Calls Try.prog 17 #[v, va] w (RetT (holdV 4 (vals cx a) ca cc) w) := by
  obtain ⟨hin, hkv⟩ := asked_parts hq
  simp only at hin hkv
  obtain ⟨p1, p2, p3, p4, p5, p6, p7, p8⟩ := askV_all hkv
  have hnx : (vals cx a).length = cx.length := vals_len cx a
  have AK := Lib.hid (fun W (k : Since w W) => by have := rasked_any v va _ a W (h.since k) (ha.since stI k) hx hca hla; rw [hq] at this; exact this)
  have VA := Lib.hid (fun W (k : Since w W) => rvalues_at h ha (by simp only; omega) hin W k)
  have LN := Lib.hid (fun W => rlinear_any 4 W)
  have FN := Lib.hid (fun vv fl W (k : Since w W) (hl1 : Sl 1 QI W vv (vals cx a)) (hf : fl = lastV (vals cx a)) => show Calls Try.prog 47 #[v, vv, .int .i64 fl] W (RetT (holdV 4 (vals cx a) ca cc) W) by subst hf; have hs := shp_num p2 (by decide); have := rlin_any v vv ⟨4, cx, ca, cc⟩ (vals cx a) (lastV (vals cx a)) W (h.since k) hl1 (by simp only; omega) (by simp only; omega) p5 p1 (by show 1 ≤ (4 : Int) ∧ (4 : Int) ≤ 6; decide); simp only at this; rw [hold_lin (by decide) hkv] at this; exact this)
  have hps := shp_pos p2 (by decide)
  obtain ⟨vx, vy, rfl, h1, h2⟩ := h
  simp only at *
  obtain ⟨X, xc, rfl⟩ := h1.form
  obtain ⟨Y, yc, rfl⟩ := h2.form
  obtain ⟨A, ac, rfl⟩ := ha.form
  generalize vals cx a = vl at *
  generalize cx.length = nx at *
  generalize ca.length = na at *
  generalize a.length = nl at *
  have ka := Lib.hid (since_alloc w (.cells #[.int .i64 4, .slice X nx xc, .slice Y na yc, .int .i64 cc] 25))
  have BC := Lib.hid (Bx.fresh w #[.int .i64 4, .slice X nx xc, .slice Y na yc, .int .i64 cc] 25)
  have HNX := Lib.hid hnx
  have HLV := Lib.hid (fun (hh : nx - 1 < vl.length) => show vl[nx - 1] = lastV vl by subst hnx; simp [lastV, List.getD, hh])
  clear h1 h2 ha hq hkv p1 p2 p3 p4 p5 p6 p7 p8 hin
  have c1 : 0 < nx := by omega
  clear hnx
  go_enter Try.func17, Try.ntmps17
  go_wp2_with (first | (go_at_call 43; (with_reducible refine (AK.out _ ka.out).mono ?_); rintro e w2 ⟨rfl, k2⟩; have K2 := Lib.hid (ka.out.trans k2); have L2 := Lib.hid k2; clear k2; obtain ⟨b0, b1, b2, b3⟩ := bx4 (BC.out.since L2.out)) | (go_at_call 45; (with_reducible refine (VA.out _ K2.out).mono ?_); rintro e w3 ⟨B, bc, rfl, q1, k3⟩; have K3 := Lib.hid (K2.out.trans k3); have L3 := Lib.hid (L2.out.trans k3); have Q1 := Lib.hid q1.sl; clear q1 k3; obtain ⟨b0, b1, b2, b3⟩ := bx4 (BC.out.since L3.out); obtain ⟨gb, ob, hB, cl⟩ := elI Q1.out (i := nx - 1) (by have := HNX.out; omega); subst hB; rw [HLV.out] at cl) | (go_at_call 42; (with_reducible refine (LN.out _).mono ?_); rintro e w4 ⟨rfl, rfl⟩) | (go_at_call 47; (with_reducible refine (FN.out _ _ _ K3.out Q1.out rfl).mono ?_); rintro e w5 ⟨rfl, k5⟩; have K5 := Lib.hid (K3.out.trans k5); clear k5))
  go_ret
  exact RetT.of rfl K5.out
set_option maxRecDepth 20000 in
set_option maxHeartbeats 3000000 in
theorem rholds5 (v va : Value) (cx ca : List Int) (cc : Int) (a : List Int) (w : World) (h : ConAt w v ⟨5, cx, ca, cc⟩) (ha : Sl 1 QI w va a) (hx : cx.length ≤ 1100000) (hca : ca.length ≤ 1100000) (hla : a.length ≤ 1100000) (hq : asked ⟨5, cx, ca, cc⟩ a = true) :
    Calls Try.prog 17 #[v, va] w (RetT (holdV 5 (vals cx a) ca cc) w) := by
  obtain ⟨hin, hkv⟩ := asked_parts hq
  simp only at hin hkv
  obtain ⟨p1, p2, p3, p4, p5, p6, p7, p8⟩ := askV_all hkv
  have hnx : (vals cx a).length = cx.length := vals_len cx a
  have AK := Lib.hid (fun W (k : Since w W) => by have := rasked_any v va _ a W (h.since k) (ha.since stI k) hx hca hla; rw [hq] at this; exact this)
  have VA := Lib.hid (fun W (k : Since w W) => rvalues_at h ha (by simp only; omega) hin W k)
  have LN := Lib.hid (fun W => rlinear_any 5 W)
  have FN := Lib.hid (fun vv fl W (k : Since w W) (hl1 : Sl 1 QI W vv (vals cx a)) (hf : fl = lastV (vals cx a)) => show Calls Try.prog 47 #[v, vv, .int .i64 fl] W (RetT (holdV 5 (vals cx a) ca cc) W) by subst hf; have hs := shp_num p2 (by decide); have := rlin_any v vv ⟨5, cx, ca, cc⟩ (vals cx a) (lastV (vals cx a)) W (h.since k) hl1 (by simp only; omega) (by simp only; omega) p5 p1 (by show 1 ≤ (5 : Int) ∧ (5 : Int) ≤ 6; decide); simp only at this; rw [hold_lin (by decide) hkv] at this; exact this)
  have hps := shp_pos p2 (by decide)
  obtain ⟨vx, vy, rfl, h1, h2⟩ := h
  simp only at *
  obtain ⟨X, xc, rfl⟩ := h1.form
  obtain ⟨Y, yc, rfl⟩ := h2.form
  obtain ⟨A, ac, rfl⟩ := ha.form
  generalize vals cx a = vl at *
  generalize cx.length = nx at *
  generalize ca.length = na at *
  generalize a.length = nl at *
  have ka := Lib.hid (since_alloc w (.cells #[.int .i64 5, .slice X nx xc, .slice Y na yc, .int .i64 cc] 25))
  have BC := Lib.hid (Bx.fresh w #[.int .i64 5, .slice X nx xc, .slice Y na yc, .int .i64 cc] 25)
  have HNX := Lib.hid hnx
  have HLV := Lib.hid (fun (hh : nx - 1 < vl.length) => show vl[nx - 1] = lastV vl by subst hnx; simp [lastV, List.getD, hh])
  clear h1 h2 ha hq hkv p1 p2 p3 p4 p5 p6 p7 p8 hin
  have c1 : 0 < nx := by omega
  clear hnx
  go_enter Try.func17, Try.ntmps17
  go_wp2_with (first | (go_at_call 43; (with_reducible refine (AK.out _ ka.out).mono ?_); rintro e w2 ⟨rfl, k2⟩; have K2 := Lib.hid (ka.out.trans k2); have L2 := Lib.hid k2; clear k2; obtain ⟨b0, b1, b2, b3⟩ := bx4 (BC.out.since L2.out)) | (go_at_call 45; (with_reducible refine (VA.out _ K2.out).mono ?_); rintro e w3 ⟨B, bc, rfl, q1, k3⟩; have K3 := Lib.hid (K2.out.trans k3); have L3 := Lib.hid (L2.out.trans k3); have Q1 := Lib.hid q1.sl; clear q1 k3; obtain ⟨b0, b1, b2, b3⟩ := bx4 (BC.out.since L3.out); obtain ⟨gb, ob, hB, cl⟩ := elI Q1.out (i := nx - 1) (by have := HNX.out; omega); subst hB; rw [HLV.out] at cl) | (go_at_call 42; (with_reducible refine (LN.out _).mono ?_); rintro e w4 ⟨rfl, rfl⟩) | (go_at_call 47; (with_reducible refine (FN.out _ _ _ K3.out Q1.out rfl).mono ?_); rintro e w5 ⟨rfl, k5⟩; have K5 := Lib.hid (K3.out.trans k5); clear k5))
  go_ret
  exact RetT.of rfl K5.out
set_option maxRecDepth 20000 in
set_option maxHeartbeats 3000000 in
theorem rholds6 (v va : Value) (cx ca : List Int) (cc : Int) (a : List Int) (w : World) (h : ConAt w v ⟨6, cx, ca, cc⟩) (ha : Sl 1 QI w va a) (hx : cx.length ≤ 1100000) (hca : ca.length ≤ 1100000) (hla : a.length ≤ 1100000) (hq : asked ⟨6, cx, ca, cc⟩ a = true) :
    Calls Try.prog 17 #[v, va] w (RetT (holdV 6 (vals cx a) ca cc) w) := by
  obtain ⟨hin, hkv⟩ := asked_parts hq
  simp only at hin hkv
  obtain ⟨p1, p2, p3, p4, p5, p6, p7, p8⟩ := askV_all hkv
  have hnx : (vals cx a).length = cx.length := vals_len cx a
  have AK := Lib.hid (fun W (k : Since w W) => by have := rasked_any v va _ a W (h.since k) (ha.since stI k) hx hca hla; rw [hq] at this; exact this)
  have VA := Lib.hid (fun W (k : Since w W) => rvalues_at h ha (by simp only; omega) hin W k)
  have LN := Lib.hid (fun W => rlinear_any 6 W)
  have FN := Lib.hid (fun vv fl W (k : Since w W) (hl1 : Sl 1 QI W vv (vals cx a)) (hf : fl = lastV (vals cx a)) => show Calls Try.prog 47 #[v, vv, .int .i64 fl] W (RetT (holdV 6 (vals cx a) ca cc) W) by subst hf; have hs := shp_num p2 (by decide); have := rlin_any v vv ⟨6, cx, ca, cc⟩ (vals cx a) (lastV (vals cx a)) W (h.since k) hl1 (by simp only; omega) (by simp only; omega) p5 p1 (by show 1 ≤ (6 : Int) ∧ (6 : Int) ≤ 6; decide); simp only at this; rw [hold_lin (by decide) hkv] at this; exact this)
  have hps := shp_pos p2 (by decide)
  obtain ⟨vx, vy, rfl, h1, h2⟩ := h
  simp only at *
  obtain ⟨X, xc, rfl⟩ := h1.form
  obtain ⟨Y, yc, rfl⟩ := h2.form
  obtain ⟨A, ac, rfl⟩ := ha.form
  generalize vals cx a = vl at *
  generalize cx.length = nx at *
  generalize ca.length = na at *
  generalize a.length = nl at *
  have ka := Lib.hid (since_alloc w (.cells #[.int .i64 6, .slice X nx xc, .slice Y na yc, .int .i64 cc] 25))
  have BC := Lib.hid (Bx.fresh w #[.int .i64 6, .slice X nx xc, .slice Y na yc, .int .i64 cc] 25)
  have HNX := Lib.hid hnx
  have HLV := Lib.hid (fun (hh : nx - 1 < vl.length) => show vl[nx - 1] = lastV vl by subst hnx; simp [lastV, List.getD, hh])
  clear h1 h2 ha hq hkv p1 p2 p3 p4 p5 p6 p7 p8 hin
  have c1 : 0 < nx := by omega
  clear hnx
  go_enter Try.func17, Try.ntmps17
  go_wp2_with (first | (go_at_call 43; (with_reducible refine (AK.out _ ka.out).mono ?_); rintro e w2 ⟨rfl, k2⟩; have K2 := Lib.hid (ka.out.trans k2); have L2 := Lib.hid k2; clear k2; obtain ⟨b0, b1, b2, b3⟩ := bx4 (BC.out.since L2.out)) | (go_at_call 45; (with_reducible refine (VA.out _ K2.out).mono ?_); rintro e w3 ⟨B, bc, rfl, q1, k3⟩; have K3 := Lib.hid (K2.out.trans k3); have L3 := Lib.hid (L2.out.trans k3); have Q1 := Lib.hid q1.sl; clear q1 k3; obtain ⟨b0, b1, b2, b3⟩ := bx4 (BC.out.since L3.out); obtain ⟨gb, ob, hB, cl⟩ := elI Q1.out (i := nx - 1) (by have := HNX.out; omega); subst hB; rw [HLV.out] at cl) | (go_at_call 42; (with_reducible refine (LN.out _).mono ?_); rintro e w4 ⟨rfl, rfl⟩) | (go_at_call 47; (with_reducible refine (FN.out _ _ _ K3.out Q1.out rfl).mono ?_); rintro e w5 ⟨rfl, k5⟩; have K5 := Lib.hid (K3.out.trans k5); clear k5))
  go_ret
  exact RetT.of rfl K5.out
end Go.Proofs.Ytoegbgkgenjplaa.Sn
