/- Layer 13 (reify): the landed decide. -/
import Derived.Test.YtoegbgkgenjplaaQbj
namespace Go.Proofs.Ytoegbgkgenjplaa.Rf
open Go.RowKit
set_option linter.unusedVariables false
set_option linter.unusedSimpArgs false
open Go.Proofs.Ytoegbgkgenjplaa.Dig Go.Proofs.Ytoegbgkgenjplaa.Lx Go.Proofs.Ytoegbgkgenjplaa.Tk Go.Proofs.Ytoegbgkgenjplaa.Ti Go.Proofs.Ytoegbgkgenjplaa.Zs Go.Proofs.Ytoegbgkgenjplaa.Tr Go.Proofs.Ytoegbgkgenjplaa.Sn Go.Proofs.Ytoegbgkgenjplaa.Ln
theorem dat_get {g n : Nat} {w0 w : World} {D : Ln.Ds} (h : DAt g n w0 w D) {i : Nat} {d : List Rn} (hd : D[i]? = some d) : ∃ A c, w.cell? ⟨g, i, none⟩ = some (.slice A d.length c) ∧ Sl 2 QR w (.slice A d.length c) d := by
  obtain ⟨hi, rfl⟩ := List.getElem?_eq_some_iff.1 hd
  exact h.get hi
set_option maxRecDepth 20000 in
set_option maxHeartbeats 4000000 in
theorem decide_any (v vd : Value) (c : Cn) (ds : Ln.Ds) (w : World) (h : ConAt w v c) (hd : Sl 1 QD w vd ds) (hm : modOk ⟨ds, [c], 0, 0⟩ = true) (hk : 4 ≤ c.k ∧ c.k ≤ 6) :
    Calls Try.prog 73 #[v, vd] w (fun e w' => Since w w' ∧ ∃ g n, e = .returned (.slice (some ⟨g, 0, none⟩) n n) ∧ w.heap.size ≤ g ∧ g < w'.heap.size ∧ DAt g n w w' (ds.set (fl c.x).toNat (dcd c.k c.c (lsum (tms c.a c.x ds)) (gsum (tms c.a c.x ds)) (domAt ds (fl c.x))))) := by
  obtain ⟨m1, m2, m3⟩ := mod_parts hm
  have hp := flg_parts m1 m3 hk
  have hxne : c.x ≠ [] := by intro e; have := hp.len; rw [e] at this; simp at this
  have SZ := mod_sz hm (by have := hp.lin.x32; have := hp.len; omega)
  have CO := Lib.hid (fun W (k : Since w W) => rcopied_any vd ds W (hd.since stD k) (by omega) (fun d hd => right_len (m1 d hd).1))
  have FO := Lib.hid (fun W (k : Since w W) => flagOf_any v c W (h.since k) hxne (by have := hp.lin.x32; omega))
  have EN := Lib.hid (fun W (k : Since w W) => by have := ends_any2 v vd c ds W (h.since k) (hd.since stD k) SZ; rw [show endO c ds = some (lsum (tms c.a c.x ds), gsum (tms c.a c.x ds)) by rw [endO, if_pos ⟨hm, by omega⟩]] at this; exact this)
  have hlg := lg_le (tms_bt m1 hp.lin.x hp.lin.w)
  have AL := Lib.hid (fun W (k : Since w W) l u => isAlways_any v c l u W (h.since k) hk)
  have NE := Lib.hid (fun W (k : Since w W) l u => isNever_any v c l u W (h.since k) hk)
  have hin := hp.inx
  have hgd := m1.at_ hin.2
  generalize lsum (tms c.a c.x ds) = l at *
  generalize gsum (tms c.a c.x ds) = u at *
  have AL := Lib.hid (fun W (k : Since w W) => AL.out W k l u)
  have NE := Lib.hid (fun W (k : Since w W) => NE.out W k l u)
  obtain ⟨F, hF⟩ : ∃ F : Nat, fl c.x = (F : Int) := ⟨(fl c.x).toNat, by omega⟩
  rw [hF] at FO hgd hin ⊢
  simp only [Int.toNat_natCast] at hin ⊢
  have hFl := Lib.hid hin.2
  have hFN : ∀ n, n = ds.length → F < n := fun n e => by rw [e]; exact hin.2
  have hFN := Lib.hid hFN
  have hdd : domAt ds (F : Int) = ds[F]'hin.2 := domAt_lt (by exact hin.2)
  rw [hdd] at hgd ⊢
  obtain ⟨A, hA⟩ : ∃ A, alw c.k c.c l u = A := ⟨_, rfl⟩
  obtain ⟨B, hB⟩ : ∃ B, nev c.k c.c l u = B := ⟨_, rfl⟩
  have hAB : ¬ (A = true ∧ B = true) := by rw [← hA, ← hB]; exact alw_nev hlg
  rw [hA] at AL
  rw [hB] at NE
  have hR : dcd c.k c.c l u (ds[F]'hin.2) = if A then without (ds[F]'hin.2) 0 else if B then without (ds[F]'hin.2) 1 else ds[F]'hin.2 := by rw [dcd, hA, hB]
  rw [hR]
  have HR := Lib.hid hR
  obtain ⟨d, hdF⟩ : ∃ d, d = ds[F]'hin.2 := ⟨_, rfl⟩
  have hDF := Lib.hid (show ds[F]? = some d by rw [hdF]; exact List.getElem?_eq_getElem hin.2)
  rw [← hdF] at hgd ⊢
  have hDR := Lib.hid hgd.1
  obtain ⟨dl, hdl⟩ : ∃ n, d.length = n := ⟨_, rfl⟩
  have hDL := Lib.hid hdl
  have ST := Lib.hid (show ds.set F d = ds by rw [hdF]; exact List.set_getElem_self ..)
  clear hm m1 m2 m3 hp hxne SZ hlg hgd hdd hA hB hR HR hdF hdl hF hin
  obtain ⟨vx, vy, rfl, h1, h2⟩ := h
  obtain ⟨ck, cx, ca, cc⟩ := c
  simp only at *
  obtain ⟨X, xc, rfl⟩ := h1.form
  obtain ⟨Y, yc, rfl⟩ := h2.form
  obtain ⟨D, dc, rfl⟩ := hd.form
  generalize hnx : cx.length = nx at *
  generalize hny : ca.length = ny at *
  generalize hnd : List.length ds = nd at *
  have ka := Lib.hid (since_alloc w (.cells #[.int .i64 ck, .slice X nx xc, .slice Y ny yc, .int .i64 cc] 25))
  have BC := Lib.hid (Bx.fresh w #[.int .i64 ck, .slice X nx xc, .slice Y ny yc, .int .i64 cc] 25)
  obtain ⟨b0, b1, b2, b3⟩ := bx4 BC.out
  unfold RetE2 at EN
  simp only [Option.getD_some, Option.isSome_some] at EN
  clear h1 h2 hd hk hnx hny hnd
  cases A with
  | false =>
    cases B with
    | false =>
      simp only [Bool.false_eq_true, if_false]
      rw [ST.out]
      go_enter Try.func73, Try.ntmps73
      go_wp2_with (first | (go_at_call 107; (with_reducible refine (CO.out _ ka.out).mono ?_); rintro e w1 ⟨g, n, rfl, hn, hg1, hg2, hD1, k1⟩; have K1 := Lib.hid (ka.out.trans k1); have L1 := Lib.hid k1; have D1 := Lib.hid (hD1.low ka.out.size); have G1 := Lib.hid (And.intro (Nat.le_trans ka.out.size hg1) hg2); have HN := Lib.hid hn; have GC := Lib.hid (show w.heap.size < g from Nat.lt_of_lt_of_le BC.out.lt hg1); have hFn := hFN.out n hn; obtain ⟨b0, b1, b2, b3⟩ := bx4 (BC.out.since k1); clear k1 hg1 hg2 hD1 hn) | (go_at_call 69; (with_reducible refine (FO.out _ K1.out).mono ?_); rintro e w2 ⟨rfl, k2, -⟩; have L2 := Lib.hid (L1.out.trans k2); have M2 := Lib.hid k2; have K2 := Lib.hid (K1.out.trans k2); have D2 := Lib.hid (D1.out.since k2); obtain ⟨b0, b1, b2, b3⟩ := bx4 (BC.out.since L2.out); clear k2) | (go_at_call 56; (with_reducible refine (EN.out _ K2.out).mono ?_); rintro e w3 ⟨rfl, k3⟩; have kz := since_alloc w3 (.cells #[.int .i64 l, .int .i64 u] 49); have L3 := Lib.hid (L2.out.trans (k3.trans kz)); have K3 := Lib.hid (K2.out.trans (k3.trans kz)); have D3 := Lib.hid (D2.out.since (k3.trans kz)); have BR := Lib.hid (Bx.fresh w3 #[.int .i64 l, .int .i64 u] 49); have M3 := Lib.hid (M2.out.trans (k3.trans kz)); have L2Z := Lib.hid (show g < w3.heap.size from Nat.lt_of_lt_of_le G1.out.2 (M2.out.trans k3).size); obtain ⟨b0, b1, b2, b3⟩ := bx4 (BC.out.since L3.out); obtain ⟨r0, r1⟩ := BR.out.two; clear k3 kz) | (go_at_call 108; (with_reducible refine (AL.out _ K3.out).mono ?_); rintro e w4 ⟨rfl, k4, -⟩; have L4 := Lib.hid (L3.out.trans k4); have M4 := Lib.hid (M3.out.trans k4); have K4 := Lib.hid (K3.out.trans k4); have D4 := Lib.hid (D3.out.since k4); have BR4 := Lib.hid (BR.out.since k4); obtain ⟨b0, b1, b2, b3⟩ := bx4 (BC.out.since L4.out); obtain ⟨r0, r1⟩ := BR4.out.two; clear k4) | (go_at_call 109; (with_reducible refine (NE.out _ K4.out).mono ?_); rintro e w5 ⟨rfl, k5, -⟩; have K5S := Lib.hid k5.size; have K5 := Lib.hid (K4.out.trans k5); have D5 := Lib.hid (D4.out.since k5); have G5 := Lib.hid (Nat.lt_of_lt_of_le G1.out.2 (Nat.le_trans M4.out.size k5.size)); clear k5))
      go_ret
      exact ⟨K5.out, g, n, rfl, G1.out.1, Nat.lt_of_lt_of_le G1.out.2 (Nat.le_trans M4.out.size K5S.out), D5.out⟩
    | true =>
      simp only [Bool.false_eq_true, if_false, if_true]
      go_enter Try.func73, Try.ntmps73
      go_wp2_with (first | (go_at_call 107; (with_reducible refine (CO.out _ ka.out).mono ?_); rintro e w1 ⟨g, n, rfl, hn, hg1, hg2, hD1, k1⟩; have K1 := Lib.hid (ka.out.trans k1); have L1 := Lib.hid k1; have D1 := Lib.hid (hD1.low ka.out.size); have G1 := Lib.hid (And.intro (Nat.le_trans ka.out.size hg1) hg2); have HN := Lib.hid hn; have GC := Lib.hid (show w.heap.size < g from Nat.lt_of_lt_of_le BC.out.lt hg1); have hFn := hFN.out n hn; obtain ⟨b0, b1, b2, b3⟩ := bx4 (BC.out.since k1); clear k1 hg1 hg2 hD1 hn) | (go_at_call 69; (with_reducible refine (FO.out _ K1.out).mono ?_); rintro e w2 ⟨rfl, k2, -⟩; have L2 := Lib.hid (L1.out.trans k2); have M2 := Lib.hid k2; have K2 := Lib.hid (K1.out.trans k2); have D2 := Lib.hid (D1.out.since k2); obtain ⟨b0, b1, b2, b3⟩ := bx4 (BC.out.since L2.out); clear k2) | (go_at_call 56; (with_reducible refine (EN.out _ K2.out).mono ?_); rintro e w3 ⟨rfl, k3⟩; have kz := since_alloc w3 (.cells #[.int .i64 l, .int .i64 u] 49); have L3 := Lib.hid (L2.out.trans (k3.trans kz)); have K3 := Lib.hid (K2.out.trans (k3.trans kz)); have D3 := Lib.hid (D2.out.since (k3.trans kz)); have BR := Lib.hid (Bx.fresh w3 #[.int .i64 l, .int .i64 u] 49); have M3 := Lib.hid (M2.out.trans (k3.trans kz)); have L2Z := Lib.hid (show g < w3.heap.size from Nat.lt_of_lt_of_le G1.out.2 (M2.out.trans k3).size); obtain ⟨b0, b1, b2, b3⟩ := bx4 (BC.out.since L3.out); obtain ⟨r0, r1⟩ := BR.out.two; clear k3 kz) | (go_at_call 108; (with_reducible refine (AL.out _ K3.out).mono ?_); rintro e w4 ⟨rfl, k4, -⟩; have L4 := Lib.hid (L3.out.trans k4); have M4 := Lib.hid (M3.out.trans k4); have K4 := Lib.hid (K3.out.trans k4); have D4 := Lib.hid (D3.out.since k4); have BR4 := Lib.hid (BR.out.since k4); obtain ⟨b0, b1, b2, b3⟩ := bx4 (BC.out.since L4.out); obtain ⟨r0, r1⟩ := BR4.out.two; clear k4) | (go_at_call 109; (with_reducible refine (NE.out _ K4.out).mono ?_); rintro e w5 ⟨rfl, k5, -⟩; have K5S := Lib.hid k5.size; have K5 := Lib.hid (K4.out.trans k5); have D5 := Lib.hid (D4.out.since k5); have G5 := Lib.hid (Nat.lt_of_lt_of_le G1.out.2 (Nat.le_trans M4.out.size k5.size)); obtain ⟨A0, c0, cl0, s0⟩ := dat_get D5.out hDF.out; simp only [hDL.out] at cl0 s0; have S0 := Lib.hid s0; clear s0; clear k5) | (go_at_call 100; (with_reducible refine (without_at S0.out hDR.out _ (Since.refl _) 1 1 rfl (by decide)).mono ?_); rintro e w6 ⟨A2, m2, c2, rfl, hm2, hN2, k6⟩; obtain ⟨u6, e6⟩ := dat_cell (D5.out.since k6) (hFN.out n HN.out); have f6 := (D5.out.since k6).no (hFN.out n HN.out); have D6 := Lib.hid (D5.out.put2 k6 (hFN.out n HN.out) hN2 K5.out.size G5.out); have K6 := Lib.hid ((K5.out.trans k6).set (p := ⟨g, F, none⟩) G1.out.1 (.slice A2 m2 c2)); have Z6 := Lib.hid (show g < (w6.setCell ⟨g, F, none⟩ (.slice A2 m2 c2)).heap.size by simp [World.setCell]; exact Nat.lt_of_lt_of_le G5.out k6.size); clear k6 hN2))
      go_ret
      exact ⟨K6.out, g, n, rfl, G1.out.1, Z6.out, D6.out⟩
  | true =>
    obtain rfl : B = false := by cases B; rfl; exact absurd ⟨rfl, rfl⟩ hAB
    simp only [if_true]
    go_enter Try.func73, Try.ntmps73
    go_wp2_with (first | (go_at_call 107; (with_reducible refine (CO.out _ ka.out).mono ?_); rintro e w1 ⟨g, n, rfl, hn, hg1, hg2, hD1, k1⟩; have K1 := Lib.hid (ka.out.trans k1); have L1 := Lib.hid k1; have D1 := Lib.hid (hD1.low ka.out.size); have G1 := Lib.hid (And.intro (Nat.le_trans ka.out.size hg1) hg2); have HN := Lib.hid hn; have GC := Lib.hid (show w.heap.size < g from Nat.lt_of_lt_of_le BC.out.lt hg1); have hFn := hFN.out n hn; obtain ⟨b0, b1, b2, b3⟩ := bx4 (BC.out.since k1); clear k1 hg1 hg2 hD1 hn) | (go_at_call 69; (with_reducible refine (FO.out _ K1.out).mono ?_); rintro e w2 ⟨rfl, k2, -⟩; have L2 := Lib.hid (L1.out.trans k2); have M2 := Lib.hid k2; have K2 := Lib.hid (K1.out.trans k2); have D2 := Lib.hid (D1.out.since k2); obtain ⟨b0, b1, b2, b3⟩ := bx4 (BC.out.since L2.out); clear k2) | (go_at_call 56; (with_reducible refine (EN.out _ K2.out).mono ?_); rintro e w3 ⟨rfl, k3⟩; have kz := since_alloc w3 (.cells #[.int .i64 l, .int .i64 u] 49); have L3 := Lib.hid (L2.out.trans (k3.trans kz)); have K3 := Lib.hid (K2.out.trans (k3.trans kz)); have D3 := Lib.hid (D2.out.since (k3.trans kz)); have BR := Lib.hid (Bx.fresh w3 #[.int .i64 l, .int .i64 u] 49); have M3 := Lib.hid (M2.out.trans (k3.trans kz)); have L2Z := Lib.hid (show g < w3.heap.size from Nat.lt_of_lt_of_le G1.out.2 (M2.out.trans k3).size); obtain ⟨b0, b1, b2, b3⟩ := bx4 (BC.out.since L3.out); obtain ⟨r0, r1⟩ := BR.out.two; clear k3 kz) | (go_at_call 108; (with_reducible refine (AL.out _ K3.out).mono ?_); rintro e w4 ⟨rfl, k4, -⟩; have L4 := Lib.hid (L3.out.trans k4); have M4 := Lib.hid (M3.out.trans k4); have K4 := Lib.hid (K3.out.trans k4); have D4 := Lib.hid (D3.out.since k4); have BR4 := Lib.hid (BR.out.since k4); obtain ⟨A0, c0, cl0, s0⟩ := dat_get D4.out hDF.out; simp only [hDL.out] at cl0 s0; have S0 := Lib.hid s0; clear s0; have f4 := D4.out.no (hFN.out n HN.out); obtain ⟨b0, b1, b2, b3⟩ := bx4 (BC.out.since L4.out); obtain ⟨r0, r1⟩ := BR4.out.two; clear k4) | (go_at_call 100; (with_reducible refine (without_at S0.out hDR.out _ (Since.refl _) 0 0 rfl (by decide)).mono ?_); rintro e w6 ⟨A2, m2, c2, rfl, hm2, hN2, k6⟩; obtain ⟨u6, e6⟩ := dat_cell (D4.out.since k6) (hFN.out n HN.out); have f6 := (D4.out.since k6).no (hFN.out n HN.out); have D6 := Lib.hid (D4.out.put2 k6 (hFN.out n HN.out) hN2 K4.out.size (Nat.lt_of_lt_of_le G1.out.2 M4.out.size)); have K6 := Lib.hid ((K4.out.trans k6).set (p := ⟨g, F, none⟩) G1.out.1 (.slice A2 m2 c2)); have Z6 := Lib.hid (show g < (w6.setCell ⟨g, F, none⟩ (.slice A2 m2 c2)).heap.size by simp [World.setCell]; exact Nat.lt_of_lt_of_le (Nat.lt_of_lt_of_le G1.out.2 M4.out.size) k6.size); have BR6 := Lib.hid (show Bx (w6.setCell ⟨g, F, none⟩ (.slice A2 m2 c2)) _ #[.int .i64 l, .int .i64 u] 49 from (BR4.out.since k6).other (b' := g) (by have := G1.out.2; have := L2Z.out; omega) F (.slice A2 m2 c2)); have BC6 := Lib.hid (show Bx (w6.setCell ⟨g, F, none⟩ (.slice A2 m2 c2)) w.heap.size #[.int .i64 ck, .slice X nx xc, .slice Y ny yc, .int .i64 cc] 25 from ((BC.out.since L4.out).since k6).other (b' := g) (by have := G1.out.1; have := GC.out; omega) F (.slice A2 m2 c2)); obtain ⟨b0, b1, b2, b3⟩ := bx4 BC6.out; obtain ⟨r0, r1⟩ := BR6.out.two; clear k6 hN2) | (go_at_call 109; (with_reducible refine (NE.out _ K6.out).mono ?_); rintro e w7 ⟨rfl, k7, -⟩; have K7 := Lib.hid (K6.out.trans k7); have K7S := Lib.hid k7.size; have D7 := Lib.hid (D6.out.since k7); clear k7))
    go_ret
    exact ⟨K7.out, g, n, rfl, G1.out.1, Nat.lt_of_lt_of_le Z6.out K7S.out, D7.out⟩
end Go.Proofs.Ytoegbgkgenjplaa.Rf
