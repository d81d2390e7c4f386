/- Layer 15 (logic): the landed Narrow. -/
import Derived.Test.YtilgmkhcpmegjaaCl
import Derived.Test.YtilgmkhcpmegjaaCi
import Derived.Test.YtilgmkhcpmegjaaCk
import Derived.Test.YtilgmkhcpmegjaaCm
namespace Go.Proofs.Ytilgmkhcpmegjaa.Lgc
open Go.RowKit
set_option linter.unusedVariables false
set_option linter.unusedSimpArgs false
open Go.Proofs.Ytilgmkhcpmegjaa.Dig Go.Proofs.Ytilgmkhcpmegjaa.Lx Go.Proofs.Ytilgmkhcpmegjaa.Tk Go.Proofs.Ytilgmkhcpmegjaa.Ti Go.Proofs.Ytilgmkhcpmegjaa.Zs Go.Proofs.Ytilgmkhcpmegjaa.Tr Go.Proofs.Ytilgmkhcpmegjaa.Sn Go.Proofs.Ytilgmkhcpmegjaa.Ln Go.Proofs.Ytilgmkhcpmegjaa.At
theorem rnr_no {p : Int} {w w' : World} (k : Since w w') : RetNr (none, p) w (.returned (.tuple #[.slice none 0 0, .int .i64 p])) w' := ⟨k, rfl⟩
theorem rnr_yes {p : Int} {E : Ln.Ds} {g n : Nat} {w w' : World} (k : Since w w') (h1 : w.heap.size ≤ g) (h2 : g < w'.heap.size) (h3 : DAt g n w w' E) : RetNr (some E, p) w (.returned (.tuple #[.slice (some ⟨g, 0, none⟩) n n, .int .i64 p])) w' := ⟨k, g, n, rfl, h1, h2, h3⟩
set_option maxRecDepth 20000 in
set_option maxHeartbeats 16000000 in
theorem logic_any (v vd : Value) (c : Cn) (ds : Ln.Ds) (w : World) (h : ConAt w v c) (hd : Sl 1 QD w vd ds) (hs : SzM ⟨ds, [c], 0, 0⟩) :
    Calls Try.prog 17 #[v, vd] w (RetNr (logO c ds) w) := by
  have FT := Lib.hid (fun W (k : Since w W) => lfit_any v vd c ds W (h.since k) (hd.since stD k) hs)
  cases hm : modOk ⟨ds, [c], 0, 0⟩ with
  | false =>
    rw [hm] at FT
    rw [logO_no hm]
    clear hm
    obtain ⟨vx, vy, rfl, h1, h2⟩ := h
    obtain ⟨ck, cx, ca, cc⟩ := c
    simp only at *
    obtain ⟨X, xc, rfl⟩ := h1.form
    obtain ⟨Y, yc, rfl⟩ := h2.form
    obtain ⟨D, dc, rfl⟩ := hd.form
    generalize hnx : cx.length = nx at *
    generalize hny : ca.length = ny at *
    generalize hnd : List.length ds = nd at *
    have ka := Lib.hid (since_alloc w (.cells #[.int .i64 ck, .slice X nx xc, .slice Y ny yc, .int .i64 cc] 25))
    have BC := Lib.hid (Bx.fresh w #[.int .i64 ck, .slice X nx xc, .slice Y ny yc, .int .i64 cc] 25)
    obtain ⟨b0, b1, b2, b3⟩ := bx4 BC.out
    clear h1 h2 hd hs hnx hny hnd
    go_enter Try.func17, Try.ntmps17
    go_wp2_with (go_at_call 65; (with_reducible refine (FT.out _ ka.out).mono ?_); rintro e w1 ⟨rfl, k1, -⟩; have K1 := Lib.hid (ka.out.trans k1); have L1 := Lib.hid k1; obtain ⟨b0, b1, b2, b3⟩ := bx4 (BC.out.since k1); clear k1)
    go_ret2
    exact rnr_no K1.out
  | true =>
  rw [hm] at FT
  obtain ⟨m1, m2, m3⟩ := mod_parts hm
  have hcx := con_x m3
  have hld : ds.length ≤ 64 := m2
  have HDL := Lib.hid (fun d (hd : d ∈ ds) => right_len (m1 d hd).1)
  by_cases hk : Lk c.k
  case neg =>
    rw [logO_know hm hk]
    clear hm m1 m2 m3 hcx
    have HH := Lib.hid h
    have HD := Lib.hid hd
    obtain ⟨vx, vy, rfl, h1, h2⟩ := h
    obtain ⟨ck, cx, ca, cc⟩ := c
    simp only at *
    obtain ⟨X, xc, rfl⟩ := h1.form
    obtain ⟨Y, yc, rfl⟩ := h2.form
    obtain ⟨D, dc, rfl⟩ := hd.form
    generalize hnx : cx.length = nx at *
    generalize hny : ca.length = ny at *
    generalize hnd : List.length ds = nd at *
    have ka := Lib.hid (since_alloc w (.cells #[.int .i64 ck, .slice X nx xc, .slice Y ny yc, .int .i64 cc] 25))
    have BC := Lib.hid (Bx.fresh w #[.int .i64 ck, .slice X nx xc, .slice Y ny yc, .int .i64 cc] 25)
    obtain ⟨b0, b1, b2, b3⟩ := bx4 BC.out
    have PO := Lib.hid (fun W (k : Since w W) => placesOf_at _ _ ds W (HH.out.since k) (HD.out.since stD k) (by omega) HDL.out)
    have MP := Lib.hid (fun (w2 : World) (g n : Nat) (hn : n = ds.length) (hg1 : w.heap.size ≤ g) (hg2 : g < w2.heap.size) (hD : DAt g n w w2 ds) (k : Since w w2) => trivial)
    clear h1 h2 hd hs hnd hld
    unfold Lk at hk
    have c11 : ¬ ck = 11 := by omega
    have c12 : ¬ ck = 12 := by omega
    have c13 : ¬ ck = 13 := by omega
    have c14 : ¬ ck = 14 := by omega
    clear hk
    go_enter Try.func17, Try.ntmps17
    go_wp2_with (first | (go_at_call 65; (with_reducible refine (FT.out _ ka.out).mono ?_); rintro e w1 ⟨rfl, k1, -⟩; have K1 := Lib.hid (ka.out.trans k1); have L1 := Lib.hid k1; obtain ⟨b0, b1, b2, b3⟩ := bx4 (BC.out.since k1); clear k1) | (go_at_call 66; (with_reducible refine (PO.out _ K1.out).mono ?_); rintro e w2 ⟨g, n, rfl, hn2, hg1, hg2, hD2, k2⟩; have K2 := Lib.hid (K1.out.trans k2); have M2 := Lib.hid (MP.out w2 g n (by first | exact hn2 | exact hn2.trans HND.out) (Nat.le_trans K1.out.size hg1) hg2 (DAt.low hD2 K1.out.size) K2.out); have A3 := Lib.hid (since_alloc w2 (.cells #[.slice X nx xc, .slice (some ⟨g, 0, none⟩) n n] 84)); have L3 := Lib.hid ((L1.out.trans k2).trans A3.out); have B3 := Lib.hid (Bx.fresh w2 #[.slice X nx xc, .slice (some ⟨g, 0, none⟩) n n] 84); obtain ⟨b0, b1, b2, b3⟩ := bx4 (BC.out.since L3.out); obtain ⟨p0, p1⟩ := B3.out.two; have HG := Lib.hid (And.intro (Nat.le_trans K1.out.size hg1) hg2); have HNE := Lib.hid (show w2.heap.size ≠ g by omega); clear hn2 hg1 hg2 hD2 k2))
    go_ret2
    exact rnr_no (K2.out.trans A3.out)
  have hT := tru_of m3 hk
  have hx32 := hcx.2.1
  have HH := Lib.hid h
  have HD := Lib.hid hd
  have MP := Lib.hid (fun (w2 : World) (g n : Nat) (hn : n = ds.length) (hg1 : w.heap.size ≤ g) (hg2 : g < w2.heap.size) (hD : DAt g n w w2 ds) (k : Since w w2) (A : Option Addr) (m cA : Nat) (hxa : Sl 1 QI w (.slice A m cA) c.x) (hxm : c.x.length = m) => show PL g n w w2 c.x ds A m cA from
    ⟨hxa.since stI k, fun hp b hb => by
      obtain ⟨gx, ox, e1, e2⟩ := elI hxa (i := 0) (by omega)
      subst e1
      have := World.block_lt_of_cell? _ _ e2
      simp only [Value.ownBlock, Option.some.injEq] at hb
      simp only at this
      omega, hD, hg1, hg2, m1, by rw [hn]; exact hcx.1, hT, hxm, by omega, k⟩)
  clear hcx hT
  have h5 := lk4 hk
  rcases h5 with hkk | hkk | hkk | hkk
  · obtain ⟨R, hR⟩ : ∃ R, cluS (cluP c.x c.a) ds = R := ⟨_, rfl⟩
    have HR := Lib.hid hR
    rw [logO_is hm hk (R := R) (by rw [l11 _ _ _ hkk]; exact hR)]
    have hshp := (con_x m3).2.2
    have hna : c.a.length = c.x.length := by unfold shp at hshp; rw [if_pos (by omega)] at hshp; exact (of_decide_eq_true hshp).symm
    clear hR hm m1 m2 m3 hk
    obtain ⟨vx, vy, rfl, h1, h2⟩ := h
    obtain ⟨ck, cx, ca, cc⟩ := c
    simp only at *
    obtain ⟨X, xc, rfl⟩ := h1.form
    obtain ⟨Y, yc, rfl⟩ := h2.form
    obtain ⟨D, dc, rfl⟩ := hd.form
    generalize hnx : cx.length = nx at *
    generalize hny : ca.length = ny at *
    generalize hnd : List.length ds = nd at *
    have ka := Lib.hid (since_alloc w (.cells #[.int .i64 ck, .slice X nx xc, .slice Y ny yc, .int .i64 cc] 25))
    have BC := Lib.hid (Bx.fresh w #[.int .i64 ck, .slice X nx xc, .slice Y ny yc, .int .i64 cc] 25)
    obtain ⟨b0, b1, b2, b3⟩ := bx4 BC.out
    have hk7 : ck = 11 := hkk
    subst hk7
    have hna2 : nx = ny := by omega
    subst hna2
    have HA := Lib.hid h2
    have TI := Lib.hid (fun w2 g n (hp : PL g n w w2 cx ds X nx xc) W (k : Since w2 W) => (clause_any (hp.since k) (a := ca) (Y := Y) (yc := yc) (HA.out.since stI (hp.ws.trans k)) (by omega)))
    have PO := Lib.hid (fun W (k : Since w W) => placesOf_at _ _ ds W (HH.out.since k) (HD.out.since stD k) (by omega) HDL.out)
    have HND := Lib.hid hnd
    have MP2 := MP
    replace MP := Lib.hid (fun w2 g n hn hg1 hg2 hD k => MP2.out w2 g n hn hg1 hg2 hD k X nx xc h1 rfl)
    clear MP2 h1 h2 hd hs hnd hkk hld
    cases R with
    | none =>
      replace TI := Lib.hid (fun w2 g n (hp : PL g n w w2 cx ds X nx xc) W (k : Since w2 W) => (TI.out w2 g n hp W k).mono fun e w' hh => RetL.is_none hh HR.out)
      clear HR
      simp only [Option.isSome_none, Bool.false_eq_true, if_false, if_true]
      go_enter Try.func17, Try.ntmps17
      go_wp2_with (first | (go_at_call 65; (with_reducible refine (FT.out _ ka.out).mono ?_); rintro e w1 ⟨rfl, k1, -⟩; have K1 := Lib.hid (ka.out.trans k1); have L1 := Lib.hid k1; obtain ⟨b0, b1, b2, b3⟩ := bx4 (BC.out.since k1); clear k1) | (go_at_call 66; (with_reducible refine (PO.out _ K1.out).mono ?_); rintro e w2 ⟨g, n, rfl, hn2, hg1, hg2, hD2, k2⟩; have K2 := Lib.hid (K1.out.trans k2); have M2 := Lib.hid (MP.out w2 g n (by first | exact hn2 | exact hn2.trans HND.out) (Nat.le_trans K1.out.size hg1) hg2 (DAt.low hD2 K1.out.size) K2.out); have A3 := Lib.hid (since_alloc w2 (.cells #[.slice X nx xc, .slice (some ⟨g, 0, none⟩) n n] 84)); have L3 := Lib.hid ((L1.out.trans k2).trans A3.out); have B3 := Lib.hid (Bx.fresh w2 #[.slice X nx xc, .slice (some ⟨g, 0, none⟩) n n] 84); obtain ⟨b0, b1, b2, b3⟩ := bx4 (BC.out.since L3.out); obtain ⟨p0, p1⟩ := B3.out.two; have HG := Lib.hid (And.intro (Nat.le_trans K1.out.size hg1) hg2); have HNE := Lib.hid (show w2.heap.size ≠ g by omega); clear hn2 hg1 hg2 hD2 k2) | (go_at_call 67; (with_reducible refine (TI.out _ _ _ M2.out _ A3.out).mono ?_); rintro e w4 ⟨rfl, ko⟩; have KO := Lib.hid ko; clear ko))
      go_ret2
      exact rnr_no (Og.all (K2.out.trans A3.out) KO.out HG.out.1)
    | some E =>
      replace TI := Lib.hid (fun w2 g n (hp : PL g n w w2 cx ds X nx xc) W (k : Since w2 W) => (TI.out w2 g n hp W k).mono fun e w' hh => RetL.is_some hh HR.out)
      clear HR
      simp only [Option.isSome_some, Bool.false_eq_true, if_false, if_true]
      go_enter Try.func17, Try.ntmps17
      go_wp2_with (first | (go_at_call 65; (with_reducible refine (FT.out _ ka.out).mono ?_); rintro e w1 ⟨rfl, k1, -⟩; have K1 := Lib.hid (ka.out.trans k1); have L1 := Lib.hid k1; obtain ⟨b0, b1, b2, b3⟩ := bx4 (BC.out.since k1); clear k1) | (go_at_call 66; (with_reducible refine (PO.out _ K1.out).mono ?_); rintro e w2 ⟨g, n, rfl, hn2, hg1, hg2, hD2, k2⟩; have K2 := Lib.hid (K1.out.trans k2); have M2 := Lib.hid (MP.out w2 g n (by first | exact hn2 | exact hn2.trans HND.out) (Nat.le_trans K1.out.size hg1) hg2 (DAt.low hD2 K1.out.size) K2.out); have A3 := Lib.hid (since_alloc w2 (.cells #[.slice X nx xc, .slice (some ⟨g, 0, none⟩) n n] 84)); have L3 := Lib.hid ((L1.out.trans k2).trans A3.out); have B3 := Lib.hid (Bx.fresh w2 #[.slice X nx xc, .slice (some ⟨g, 0, none⟩) n n] 84); obtain ⟨b0, b1, b2, b3⟩ := bx4 (BC.out.since L3.out); obtain ⟨p0, p1⟩ := B3.out.two; have HG := Lib.hid (And.intro (Nat.le_trans K1.out.size hg1) hg2); have HNE := Lib.hid (show w2.heap.size ≠ g by omega); clear hn2 hg1 hg2 hD2 k2) | (go_at_call 67; (with_reducible refine (TI.out _ _ _ M2.out _ A3.out).mono ?_); rintro e w4 ⟨rfl, hd5, ko⟩; have KO := Lib.hid ko; have D5 := Lib.hid hd5; obtain ⟨p0, p1⟩ := (KO.out.bx B3.out HNE.out).two; clear ko hd5))
      go_ret2
      exact rnr_yes (Og.all (K2.out.trans A3.out) KO.out HG.out.1) HG.out.1 (Nat.lt_of_lt_of_le (Nat.lt_of_lt_of_le HG.out.2 A3.out.size) KO.out.size) D5.out
  · obtain ⟨R, hR⟩ : ∃ R, andS (rst c.x) (flf c.x) 1 ds = R := ⟨_, rfl⟩
    have HR := Lib.hid hR
    rw [logO_is hm hk (R := R) (by rw [l12 _ _ _ hkk]; exact hR)]
    have hshp := (con_x m3).2.2
    have hpos := List.length_pos_iff.2 (and_ne m3 (.inl hkk))
    clear hR hm m1 m2 m3 hk
    obtain ⟨vx, vy, rfl, h1, h2⟩ := h
    obtain ⟨ck, cx, ca, cc⟩ := c
    simp only at *
    obtain ⟨X, xc, rfl⟩ := h1.form
    obtain ⟨Y, yc, rfl⟩ := h2.form
    obtain ⟨D, dc, rfl⟩ := hd.form
    generalize hnx : cx.length = nx at *
    generalize hny : ca.length = ny at *
    generalize hnd : List.length ds = nd at *
    have ka := Lib.hid (since_alloc w (.cells #[.int .i64 ck, .slice X nx xc, .slice Y ny yc, .int .i64 cc] 25))
    have BC := Lib.hid (Bx.fresh w #[.int .i64 ck, .slice X nx xc, .slice Y ny yc, .int .i64 cc] 25)
    obtain ⟨b0, b1, b2, b3⟩ := bx4 BC.out
    have hk7 : ck = 12 := hkk
    subst hk7
    have e1 : cx.take (nx - 1) = rst cx := by unfold rst; rw [hnx]
    have e2 : cx.getD (nx - 1) 0 = flf cx := by unfold flf; rw [hnx]
    have TI := Lib.hid (fun w2 g n (hp : PL g n w w2 cx ds X nx xc) W (k : Since w2 W) => (by have t := all_any (hp.since k) (s := 1) hpos (.inr rfl); rw [e1, e2] at t; exact t))
    have PO := Lib.hid (fun W (k : Since w W) => placesOf_at _ _ ds W (HH.out.since k) (HD.out.since stD k) (by omega) HDL.out)
    have HND := Lib.hid hnd
    have MP2 := MP
    replace MP := Lib.hid (fun w2 g n hn hg1 hg2 hD k => MP2.out w2 g n hn hg1 hg2 hD k X nx xc h1 rfl)
    clear MP2 h1 h2 hd hs hnd hkk hld
    cases R with
    | none =>
      replace TI := Lib.hid (fun w2 g n (hp : PL g n w w2 cx ds X nx xc) W (k : Since w2 W) => (TI.out w2 g n hp W k).mono fun e w' hh => RetL.is_none hh HR.out)
      clear HR
      simp only [Option.isSome_none, Bool.false_eq_true, if_false, if_true]
      go_enter Try.func17, Try.ntmps17
      go_wp2_with (first | (go_at_call 65; (with_reducible refine (FT.out _ ka.out).mono ?_); rintro e w1 ⟨rfl, k1, -⟩; have K1 := Lib.hid (ka.out.trans k1); have L1 := Lib.hid k1; obtain ⟨b0, b1, b2, b3⟩ := bx4 (BC.out.since k1); clear k1) | (go_at_call 66; (with_reducible refine (PO.out _ K1.out).mono ?_); rintro e w2 ⟨g, n, rfl, hn2, hg1, hg2, hD2, k2⟩; have K2 := Lib.hid (K1.out.trans k2); have M2 := Lib.hid (MP.out w2 g n (by first | exact hn2 | exact hn2.trans HND.out) (Nat.le_trans K1.out.size hg1) hg2 (DAt.low hD2 K1.out.size) K2.out); have A3 := Lib.hid (since_alloc w2 (.cells #[.slice X nx xc, .slice (some ⟨g, 0, none⟩) n n] 84)); have L3 := Lib.hid ((L1.out.trans k2).trans A3.out); have B3 := Lib.hid (Bx.fresh w2 #[.slice X nx xc, .slice (some ⟨g, 0, none⟩) n n] 84); obtain ⟨b0, b1, b2, b3⟩ := bx4 (BC.out.since L3.out); obtain ⟨p0, p1⟩ := B3.out.two; have HG := Lib.hid (And.intro (Nat.le_trans K1.out.size hg1) hg2); have HNE := Lib.hid (show w2.heap.size ≠ g by omega); clear hn2 hg1 hg2 hD2 k2) | (go_at_call 68; (with_reducible refine (TI.out _ _ _ M2.out _ A3.out).mono ?_); rintro e w4 ⟨rfl, ko⟩; have KO := Lib.hid ko; clear ko))
      go_ret2
      exact rnr_no (Og.all (K2.out.trans A3.out) KO.out HG.out.1)
    | some E =>
      replace TI := Lib.hid (fun w2 g n (hp : PL g n w w2 cx ds X nx xc) W (k : Since w2 W) => (TI.out w2 g n hp W k).mono fun e w' hh => RetL.is_some hh HR.out)
      clear HR
      simp only [Option.isSome_some, Bool.false_eq_true, if_false, if_true]
      go_enter Try.func17, Try.ntmps17
      go_wp2_with (first | (go_at_call 65; (with_reducible refine (FT.out _ ka.out).mono ?_); rintro e w1 ⟨rfl, k1, -⟩; have K1 := Lib.hid (ka.out.trans k1); have L1 := Lib.hid k1; obtain ⟨b0, b1, b2, b3⟩ := bx4 (BC.out.since k1); clear k1) | (go_at_call 66; (with_reducible refine (PO.out _ K1.out).mono ?_); rintro e w2 ⟨g, n, rfl, hn2, hg1, hg2, hD2, k2⟩; have K2 := Lib.hid (K1.out.trans k2); have M2 := Lib.hid (MP.out w2 g n (by first | exact hn2 | exact hn2.trans HND.out) (Nat.le_trans K1.out.size hg1) hg2 (DAt.low hD2 K1.out.size) K2.out); have A3 := Lib.hid (since_alloc w2 (.cells #[.slice X nx xc, .slice (some ⟨g, 0, none⟩) n n] 84)); have L3 := Lib.hid ((L1.out.trans k2).trans A3.out); have B3 := Lib.hid (Bx.fresh w2 #[.slice X nx xc, .slice (some ⟨g, 0, none⟩) n n] 84); obtain ⟨b0, b1, b2, b3⟩ := bx4 (BC.out.since L3.out); obtain ⟨p0, p1⟩ := B3.out.two; have HG := Lib.hid (And.intro (Nat.le_trans K1.out.size hg1) hg2); have HNE := Lib.hid (show w2.heap.size ≠ g by omega); clear hn2 hg1 hg2 hD2 k2) | (go_at_call 68; (with_reducible refine (TI.out _ _ _ M2.out _ A3.out).mono ?_); rintro e w4 ⟨rfl, hd5, ko⟩; have KO := Lib.hid ko; have D5 := Lib.hid hd5; obtain ⟨p0, p1⟩ := (KO.out.bx B3.out HNE.out).two; clear ko hd5))
      go_ret2
      exact rnr_yes (Og.all (K2.out.trans A3.out) KO.out HG.out.1) HG.out.1 (Nat.lt_of_lt_of_le (Nat.lt_of_lt_of_le HG.out.2 A3.out.size) KO.out.size) D5.out
  · obtain ⟨R, hR⟩ : ∃ R, andS (rst c.x) (flf c.x) 0 ds = R := ⟨_, rfl⟩
    have HR := Lib.hid hR
    rw [logO_is hm hk (R := R) (by rw [l13 _ _ _ hkk]; exact hR)]
    have hshp := (con_x m3).2.2
    have hpos := List.length_pos_iff.2 (and_ne m3 (.inr hkk))
    clear hR hm m1 m2 m3 hk
    obtain ⟨vx, vy, rfl, h1, h2⟩ := h
    obtain ⟨ck, cx, ca, cc⟩ := c
    simp only at *
    obtain ⟨X, xc, rfl⟩ := h1.form
    obtain ⟨Y, yc, rfl⟩ := h2.form
    obtain ⟨D, dc, rfl⟩ := hd.form
    generalize hnx : cx.length = nx at *
    generalize hny : ca.length = ny at *
    generalize hnd : List.length ds = nd at *
    have ka := Lib.hid (since_alloc w (.cells #[.int .i64 ck, .slice X nx xc, .slice Y ny yc, .int .i64 cc] 25))
    have BC := Lib.hid (Bx.fresh w #[.int .i64 ck, .slice X nx xc, .slice Y ny yc, .int .i64 cc] 25)
    obtain ⟨b0, b1, b2, b3⟩ := bx4 BC.out
    have hk7 : ck = 13 := hkk
    subst hk7
    have e1 : cx.take (nx - 1) = rst cx := by unfold rst; rw [hnx]
    have e2 : cx.getD (nx - 1) 0 = flf cx := by unfold flf; rw [hnx]
    have TI := Lib.hid (fun w2 g n (hp : PL g n w w2 cx ds X nx xc) W (k : Since w2 W) => (by have t := all_any (hp.since k) (s := 0) hpos (.inl rfl); rw [e1, e2] at t; exact t))
    have PO := Lib.hid (fun W (k : Since w W) => placesOf_at _ _ ds W (HH.out.since k) (HD.out.since stD k) (by omega) HDL.out)
    have HND := Lib.hid hnd
    have MP2 := MP
    replace MP := Lib.hid (fun w2 g n hn hg1 hg2 hD k => MP2.out w2 g n hn hg1 hg2 hD k X nx xc h1 rfl)
    clear MP2 h1 h2 hd hs hnd hkk hld
    cases R with
    | none =>
      replace TI := Lib.hid (fun w2 g n (hp : PL g n w w2 cx ds X nx xc) W (k : Since w2 W) => (TI.out w2 g n hp W k).mono fun e w' hh => RetL.is_none hh HR.out)
      clear HR
      simp only [Option.isSome_none, Bool.false_eq_true, if_false, if_true]
      go_enter Try.func17, Try.ntmps17
      go_wp2_with (first | (go_at_call 65; (with_reducible refine (FT.out _ ka.out).mono ?_); rintro e w1 ⟨rfl, k1, -⟩; have K1 := Lib.hid (ka.out.trans k1); have L1 := Lib.hid k1; obtain ⟨b0, b1, b2, b3⟩ := bx4 (BC.out.since k1); clear k1) | (go_at_call 66; (with_reducible refine (PO.out _ K1.out).mono ?_); rintro e w2 ⟨g, n, rfl, hn2, hg1, hg2, hD2, k2⟩; have K2 := Lib.hid (K1.out.trans k2); have M2 := Lib.hid (MP.out w2 g n (by first | exact hn2 | exact hn2.trans HND.out) (Nat.le_trans K1.out.size hg1) hg2 (DAt.low hD2 K1.out.size) K2.out); have A3 := Lib.hid (since_alloc w2 (.cells #[.slice X nx xc, .slice (some ⟨g, 0, none⟩) n n] 84)); have L3 := Lib.hid ((L1.out.trans k2).trans A3.out); have B3 := Lib.hid (Bx.fresh w2 #[.slice X nx xc, .slice (some ⟨g, 0, none⟩) n n] 84); obtain ⟨b0, b1, b2, b3⟩ := bx4 (BC.out.since L3.out); obtain ⟨p0, p1⟩ := B3.out.two; have HG := Lib.hid (And.intro (Nat.le_trans K1.out.size hg1) hg2); have HNE := Lib.hid (show w2.heap.size ≠ g by omega); clear hn2 hg1 hg2 hD2 k2) | (go_at_call 68; (with_reducible refine (TI.out _ _ _ M2.out _ A3.out).mono ?_); rintro e w4 ⟨rfl, ko⟩; have KO := Lib.hid ko; clear ko))
      go_ret2
      exact rnr_no (Og.all (K2.out.trans A3.out) KO.out HG.out.1)
    | some E =>
      replace TI := Lib.hid (fun w2 g n (hp : PL g n w w2 cx ds X nx xc) W (k : Since w2 W) => (TI.out w2 g n hp W k).mono fun e w' hh => RetL.is_some hh HR.out)
      clear HR
      simp only [Option.isSome_some, Bool.false_eq_true, if_false, if_true]
      go_enter Try.func17, Try.ntmps17
      go_wp2_with (first | (go_at_call 65; (with_reducible refine (FT.out _ ka.out).mono ?_); rintro e w1 ⟨rfl, k1, -⟩; have K1 := Lib.hid (ka.out.trans k1); have L1 := Lib.hid k1; obtain ⟨b0, b1, b2, b3⟩ := bx4 (BC.out.since k1); clear k1) | (go_at_call 66; (with_reducible refine (PO.out _ K1.out).mono ?_); rintro e w2 ⟨g, n, rfl, hn2, hg1, hg2, hD2, k2⟩; have K2 := Lib.hid (K1.out.trans k2); have M2 := Lib.hid (MP.out w2 g n (by first | exact hn2 | exact hn2.trans HND.out) (Nat.le_trans K1.out.size hg1) hg2 (DAt.low hD2 K1.out.size) K2.out); have A3 := Lib.hid (since_alloc w2 (.cells #[.slice X nx xc, .slice (some ⟨g, 0, none⟩) n n] 84)); have L3 := Lib.hid ((L1.out.trans k2).trans A3.out); have B3 := Lib.hid (Bx.fresh w2 #[.slice X nx xc, .slice (some ⟨g, 0, none⟩) n n] 84); obtain ⟨b0, b1, b2, b3⟩ := bx4 (BC.out.since L3.out); obtain ⟨p0, p1⟩ := B3.out.two; have HG := Lib.hid (And.intro (Nat.le_trans K1.out.size hg1) hg2); have HNE := Lib.hid (show w2.heap.size ≠ g by omega); clear hn2 hg1 hg2 hD2 k2) | (go_at_call 68; (with_reducible refine (TI.out _ _ _ M2.out _ A3.out).mono ?_); rintro e w4 ⟨rfl, hd5, ko⟩; have KO := Lib.hid ko; have D5 := Lib.hid hd5; obtain ⟨p0, p1⟩ := (KO.out.bx B3.out HNE.out).two; clear ko hd5))
      go_ret2
      exact rnr_yes (Og.all (K2.out.trans A3.out) KO.out HG.out.1) HG.out.1 (Nat.lt_of_lt_of_le (Nat.lt_of_lt_of_le HG.out.2 A3.out.size) KO.out.size) D5.out
  · obtain ⟨R, hR⟩ : ∃ R, xorS c.x ds = R := ⟨_, rfl⟩
    have HR := Lib.hid hR
    rw [logO_is hm hk (R := R) (by rw [l14 _ _ _ hkk]; exact hR)]
    have hshp := (con_x m3).2.2
    clear hR hm m1 m2 m3 hk
    obtain ⟨vx, vy, rfl, h1, h2⟩ := h
    obtain ⟨ck, cx, ca, cc⟩ := c
    simp only at *
    obtain ⟨X, xc, rfl⟩ := h1.form
    obtain ⟨Y, yc, rfl⟩ := h2.form
    obtain ⟨D, dc, rfl⟩ := hd.form
    generalize hnx : cx.length = nx at *
    generalize hny : ca.length = ny at *
    generalize hnd : List.length ds = nd at *
    have ka := Lib.hid (since_alloc w (.cells #[.int .i64 ck, .slice X nx xc, .slice Y ny yc, .int .i64 cc] 25))
    have BC := Lib.hid (Bx.fresh w #[.int .i64 ck, .slice X nx xc, .slice Y ny yc, .int .i64 cc] 25)
    obtain ⟨b0, b1, b2, b3⟩ := bx4 BC.out
    have hk7 : ck = 14 := hkk
    subst hk7
    have TI := Lib.hid (fun w2 g n (hp : PL g n w w2 cx ds X nx xc) W (k : Since w2 W) => (xor_any (hp.since k)))
    have PO := Lib.hid (fun W (k : Since w W) => placesOf_at _ _ ds W (HH.out.since k) (HD.out.since stD k) (by omega) HDL.out)
    have HND := Lib.hid hnd
    have MP2 := MP
    replace MP := Lib.hid (fun w2 g n hn hg1 hg2 hD k => MP2.out w2 g n hn hg1 hg2 hD k X nx xc h1 rfl)
    clear MP2 h1 h2 hd hs hnd hkk hld
    cases R with
    | none =>
      replace TI := Lib.hid (fun w2 g n (hp : PL g n w w2 cx ds X nx xc) W (k : Since w2 W) => (TI.out w2 g n hp W k).mono fun e w' hh => RetL.is_none hh HR.out)
      clear HR
      simp only [Option.isSome_none, Bool.false_eq_true, if_false, if_true]
      go_enter Try.func17, Try.ntmps17
      go_wp2_with (first | (go_at_call 65; (with_reducible refine (FT.out _ ka.out).mono ?_); rintro e w1 ⟨rfl, k1, -⟩; have K1 := Lib.hid (ka.out.trans k1); have L1 := Lib.hid k1; obtain ⟨b0, b1, b2, b3⟩ := bx4 (BC.out.since k1); clear k1) | (go_at_call 66; (with_reducible refine (PO.out _ K1.out).mono ?_); rintro e w2 ⟨g, n, rfl, hn2, hg1, hg2, hD2, k2⟩; have K2 := Lib.hid (K1.out.trans k2); have M2 := Lib.hid (MP.out w2 g n (by first | exact hn2 | exact hn2.trans HND.out) (Nat.le_trans K1.out.size hg1) hg2 (DAt.low hD2 K1.out.size) K2.out); have A3 := Lib.hid (since_alloc w2 (.cells #[.slice X nx xc, .slice (some ⟨g, 0, none⟩) n n] 84)); have L3 := Lib.hid ((L1.out.trans k2).trans A3.out); have B3 := Lib.hid (Bx.fresh w2 #[.slice X nx xc, .slice (some ⟨g, 0, none⟩) n n] 84); obtain ⟨b0, b1, b2, b3⟩ := bx4 (BC.out.since L3.out); obtain ⟨p0, p1⟩ := B3.out.two; have HG := Lib.hid (And.intro (Nat.le_trans K1.out.size hg1) hg2); have HNE := Lib.hid (show w2.heap.size ≠ g by omega); clear hn2 hg1 hg2 hD2 k2) | (go_at_call 69; (with_reducible refine (TI.out _ _ _ M2.out _ A3.out).mono ?_); rintro e w4 ⟨rfl, ko⟩; have KO := Lib.hid ko; clear ko))
      go_ret2
      exact rnr_no (Og.all (K2.out.trans A3.out) KO.out HG.out.1)
    | some E =>
      replace TI := Lib.hid (fun w2 g n (hp : PL g n w w2 cx ds X nx xc) W (k : Since w2 W) => (TI.out w2 g n hp W k).mono fun e w' hh => RetL.is_some hh HR.out)
      clear HR
      simp only [Option.isSome_some, Bool.false_eq_true, if_false, if_true]
      go_enter Try.func17, Try.ntmps17
      go_wp2_with (first | (go_at_call 65; (with_reducible refine (FT.out _ ka.out).mono ?_); rintro e w1 ⟨rfl, k1, -⟩; have K1 := Lib.hid (ka.out.trans k1); have L1 := Lib.hid k1; obtain ⟨b0, b1, b2, b3⟩ := bx4 (BC.out.since k1); clear k1) | (go_at_call 66; (with_reducible refine (PO.out _ K1.out).mono ?_); rintro e w2 ⟨g, n, rfl, hn2, hg1, hg2, hD2, k2⟩; have K2 := Lib.hid (K1.out.trans k2); have M2 := Lib.hid (MP.out w2 g n (by first | exact hn2 | exact hn2.trans HND.out) (Nat.le_trans K1.out.size hg1) hg2 (DAt.low hD2 K1.out.size) K2.out); have A3 := Lib.hid (since_alloc w2 (.cells #[.slice X nx xc, .slice (some ⟨g, 0, none⟩) n n] 84)); have L3 := Lib.hid ((L1.out.trans k2).trans A3.out); have B3 := Lib.hid (Bx.fresh w2 #[.slice X nx xc, .slice (some ⟨g, 0, none⟩) n n] 84); obtain ⟨b0, b1, b2, b3⟩ := bx4 (BC.out.since L3.out); obtain ⟨p0, p1⟩ := B3.out.two; have HG := Lib.hid (And.intro (Nat.le_trans K1.out.size hg1) hg2); have HNE := Lib.hid (show w2.heap.size ≠ g by omega); clear hn2 hg1 hg2 hD2 k2) | (go_at_call 69; (with_reducible refine (TI.out _ _ _ M2.out _ A3.out).mono ?_); rintro e w4 ⟨rfl, hd5, ko⟩; have KO := Lib.hid ko; have D5 := Lib.hid hd5; obtain ⟨p0, p1⟩ := (KO.out.bx B3.out HNE.out).two; clear ko hd5))
      go_ret2
      exact rnr_yes (Og.all (K2.out.trans A3.out) KO.out HG.out.1) HG.out.1 (Nat.lt_of_lt_of_le (Nat.lt_of_lt_of_le HG.out.2 A3.out.size) KO.out.size) D5.out
end Go.Proofs.Ytilgmkhcpmegjaa.Lgc
