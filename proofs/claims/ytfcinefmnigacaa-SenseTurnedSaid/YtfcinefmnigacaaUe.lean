/- Layer 11 (sense): the landed model's isConstraint. -/
import Derived.Test.YtfcinefmnigacaaUc
import Derived.Test.YtfcinefmnigacaaUd
namespace Go.Proofs.Ytfcinefmnigacaa.Sn
open Go.RowKit
set_option linter.unusedVariables false
set_option linter.unusedSimpArgs false
open Go.Proofs.Ytfcinefmnigacaa.Dig Go.Proofs.Ytfcinefmnigacaa.Lx Go.Proofs.Ytfcinefmnigacaa.Tk Go.Proofs.Ytfcinefmnigacaa.Ti Go.Proofs.Ytfcinefmnigacaa.Zs Go.Proofs.Ytfcinefmnigacaa.Tr

theorem bx4 {W : World} {g : Nat} {z0 z1 z2 z3 : Value} {t : TypeId} (h : Bx W g #[z0, z1, z2, z3] t) : W.cell? ⟨g, 0, none⟩ = some z0 ∧ W.cell? ⟨g, 1, none⟩ = some z1 ∧ W.cell? ⟨g, 2, none⟩ = some z2 ∧ W.cell? ⟨g, 3, none⟩ = some z3 := ⟨h.cell 0, h.cell 1, h.cell 2, h.cell 3⟩
theorem bools_sub {α : Type} {k : Int} {x : List α} {y : α} (h : y ∈ bools k x) : y ∈ x := by
  unfold bools at h
  split at h
  · exact List.mem_of_mem_drop h
  · split at h
    · exact h
    · cases h
theorem bools_len {α : Type} (k : Int) (x : List α) : (bools k x).length ≤ x.length := by
  unfold bools
  split
  · rw [List.length_drop]; omega
  · split
    · exact Nat.le_refl _
    · exact Nat.zero_le _
theorem isV_nat {n : Nat} {y : Int} (h : isV n y = true) : ∃ q : Nat, y = (q : Int) ∧ q < n := by
  simp only [isV, Bool.and_eq_true, decide_eq_true_eq] at h
  exact ⟨y.toNat, by omega, by omega⟩
theorem domAt_nat {ds : List (List Rn)} {q : Nat} (h : q < ds.length) : domAt ds (q : Int) = ds[q] := by simp [domAt, h]
set_option maxRecDepth 20000 in
set_option maxHeartbeats 4000000 in
theorem isConstraint_any (v vd : Value) (c : Cn) (ds : List (List Rn)) (w : World) (h : ConAt w v c) (hd : Sl 1 QD w vd ds) (hok : ∀ d ∈ ds, 0 < d.length ∧ d.length ≤ 1100000) (hx : c.x.length ≤ 1100000) (ha : c.a.length ≤ 1100000) (hdl : ds.length ≤ 1100000) :
    Calls Try.prog 52 #[v, vd] w (RetT (conOk ds c) w) := by
  obtain ⟨vx, va, rfl, h1, h2⟩ := h
  obtain ⟨ck, cx, ca, cc⟩ := c
  simp only at h1 h2 hx ha ⊢
  obtain ⟨X, xc, rfl⟩ := h1.form
  obtain ⟨Y, yc, rfl⟩ := h2.form
  obtain ⟨D, dc, rfl⟩ := hd.form
  obtain ⟨nx, hnx⟩ : ∃ n, n = cx.length := ⟨_, rfl⟩
  obtain ⟨na, hna⟩ : ∃ n, n = ca.length := ⟨_, rfl⟩
  obtain ⟨nd, hnd⟩ : ∃ n, n = ds.length := ⟨_, rfl⟩
  obtain ⟨R, hR⟩ : ∃ R, R = conOk ds ⟨ck, cx, ca, cc⟩ := ⟨_, rfl⟩
  have HR := Lib.hid (show (numOk ck nx ca cc && cx.all (isV nd) && (bools ck cx).all (fun x => tru (domAt ds x))) = R by rw [hR, hnx, hnd]; rfl)
  rw [← hR]
  clear hR
  rw [← hnx] at h1 hx ⊢
  rw [← hna] at h2 ha ⊢
  rw [← hnd] at hd hdl ⊢
  have H1 := Lib.hid h1
  have H2 := Lib.hid h2
  have HD := Lib.hid hd
  have HNX := Lib.hid hnx
  have HNA := Lib.hid hna
  have HND := Lib.hid hnd
  have HOK := Lib.hid hok
  have ka := Lib.hid (since_alloc w (.cells #[.int .i64 ck, .slice X nx xc, .slice Y na yc, .int .i64 cc] 25))
  have BX := Lib.hid (fun W (kk : Since (w.alloc (.cells #[.int .i64 ck, .slice X nx xc, .slice Y na yc, .int .i64 cc] 25)) W) => (Bx.fresh w #[.int .i64 ck, .slice X nx xc, .slice Y na yc, .int .i64 cc] 25).since kk)
  have t0 := Lib.hid (Since.refl (w.alloc (.cells #[.int .i64 ck, .slice X nx xc, .slice Y na yc, .int .i64 cc] 25)))
  have C1 := Lib.hid (fun b (hb : shp ck nx na = b) W => by have := hasCounts_any ck X Y nx xc na yc cc W hx ha; rw [hb] at this; exact this)
  have C2 := Lib.hid (fun b (hb : sgn ck ca cc = b) W (kk : Since w W) => by have := hasSigns_any ck (.slice X nx xc) (.slice Y na yc) ca cc W ⟨_, _, _, rfl⟩ (h2.since stI kk) (by omega); rw [hb] at this; exact this)
  have C4 := Lib.hid (fun b (hb : ca.all within = b) W (kk : Since w W) => by have := areValues_any (.slice Y na yc) ca W (h2.since stI kk) (by omega); rw [hb] at this; exact this)
  have C5 := Lib.hid (fun b (hb : within cc = b) W => by have := isValue_any cc W; rw [hb] at this; exact this)
  have C6 := Lib.hid (fun b (hb : tak ck = b) W => by have := takesNumber_any ck W; rw [hb] at this; exact this)
  have C7 := Lib.hid (fun (y : Int) b (hb : isV nd y = b) W => by have := isVariable_any y D nd dc W; rw [hb] at this; exact this)
  have C8 := Lib.hid (fun (hp : ck = 4 ∨ ck = 5 ∨ ck = 6 → 0 < cx.length) W (kk : Since w W) => booleans_any ck (.slice X nx xc) (.slice Y na yc) cx cc W ⟨_, _, _, rfl⟩ (h1.since stI kk) hp (by omega))
  clear h1 h2 hd hnx hna hnd hok
  cases q1 : shp ck nx na with
  | false =>
    have D1 := Lib.hid (C1.out false q1)
    have E := Lib.hid (show false = R by rw [← HR.out, numOk, ← HNA.out, q1]; simp)
    skip
    go_enter Try.func52, Try.ntmps52
    go_wp2_with (first | (go_at_call 65; (with_reducible refine (D1.out _).mono ?_); rintro e w1 ⟨rfl, k1⟩; have t1 := Lib.hid (t0.out.trans k1); obtain ⟨b0, b1, b2, b3⟩ := bx4 (BX.out _ t1.out)))
    go_ret
    exact .of E.out (ka.out.trans t1.out)
  | true =>
    have D1 := Lib.hid (C1.out true q1)
    cases q2 : sgn ck ca cc with
    | false =>
      have D2 := Lib.hid (C2.out false q2)
      have E := Lib.hid (show false = R by rw [← HR.out, numOk, ← HNA.out, q1, q2]; simp)
      skip
      go_enter Try.func52, Try.ntmps52
      go_wp2_with (first | (go_at_call 65; (with_reducible refine (D1.out _).mono ?_); rintro e w1 ⟨rfl, k1⟩; have t1 := Lib.hid (t0.out.trans k1); obtain ⟨b0, b1, b2, b3⟩ := bx4 (BX.out _ t1.out)) | (go_at_call 66; (with_reducible refine (D2.out _ (ka.out.trans t1.out)).mono ?_); rintro e w2 ⟨rfl, k2⟩; have t2 := Lib.hid (t1.out.trans k2); obtain ⟨b0, b1, b2, b3⟩ := bx4 (BX.out _ t2.out)))
      go_ret
      exact .of E.out (ka.out.trans t2.out)
    | true =>
      have D2 := Lib.hid (C2.out true q2)
      by_cases q3 : nx ≤ 32
      case neg =>
        have q3' : decide (nx ≤ 32) = false := decide_eq_false q3
        have E := Lib.hid (show false = R by rw [← HR.out, numOk, ← HNA.out, q1, q2, q3']; simp)
        go_enter Try.func52, Try.ntmps52
        go_wp2_with (first | (go_at_call 65; (with_reducible refine (D1.out _).mono ?_); rintro e w1 ⟨rfl, k1⟩; have t1 := Lib.hid (t0.out.trans k1); obtain ⟨b0, b1, b2, b3⟩ := bx4 (BX.out _ t1.out)) | (go_at_call 66; (with_reducible refine (D2.out _ (ka.out.trans t1.out)).mono ?_); rintro e w2 ⟨rfl, k2⟩; have t2 := Lib.hid (t1.out.trans k2); obtain ⟨b0, b1, b2, b3⟩ := bx4 (BX.out _ t2.out)))
        go_ret
        exact .of E.out (ka.out.trans t2.out)
      have q3' : decide (nx ≤ 32) = true := decide_eq_true q3
      cases q4 : ca.all within with
      | false =>
        have D4 := Lib.hid (C4.out false q4)
        have E := Lib.hid (show false = R by rw [← HR.out, numOk, ← HNA.out, q1, q2, q3', q4]; simp)
        skip
        go_enter Try.func52, Try.ntmps52
        go_wp2_with (first | (go_at_call 65; (with_reducible refine (D1.out _).mono ?_); rintro e w1 ⟨rfl, k1⟩; have t1 := Lib.hid (t0.out.trans k1); obtain ⟨b0, b1, b2, b3⟩ := bx4 (BX.out _ t1.out)) | (go_at_call 66; (with_reducible refine (D2.out _ (ka.out.trans t1.out)).mono ?_); rintro e w2 ⟨rfl, k2⟩; have t2 := Lib.hid (t1.out.trans k2); obtain ⟨b0, b1, b2, b3⟩ := bx4 (BX.out _ t2.out)) | (go_at_call 67; (with_reducible refine (D4.out _ (ka.out.trans t2.out)).mono ?_); rintro e w4 ⟨rfl, k4⟩; have t4 := Lib.hid (t2.out.trans k4); obtain ⟨b0, b1, b2, b3⟩ := bx4 (BX.out _ t4.out)))
        go_ret
        exact .of E.out (ka.out.trans t4.out)
      | true =>
        have D4 := Lib.hid (C4.out true q4)
        cases q5 : within cc with
        | false =>
          have D5 := Lib.hid (C5.out false q5)
          have E := Lib.hid (show false = R by rw [← HR.out, numOk, ← HNA.out, q1, q2, q3', q4, q5]; simp)
          skip
          go_enter Try.func52, Try.ntmps52
          go_wp2_with (first | (go_at_call 65; (with_reducible refine (D1.out _).mono ?_); rintro e w1 ⟨rfl, k1⟩; have t1 := Lib.hid (t0.out.trans k1); obtain ⟨b0, b1, b2, b3⟩ := bx4 (BX.out _ t1.out)) | (go_at_call 66; (with_reducible refine (D2.out _ (ka.out.trans t1.out)).mono ?_); rintro e w2 ⟨rfl, k2⟩; have t2 := Lib.hid (t1.out.trans k2); obtain ⟨b0, b1, b2, b3⟩ := bx4 (BX.out _ t2.out)) | (go_at_call 67; (with_reducible refine (D4.out _ (ka.out.trans t2.out)).mono ?_); rintro e w4 ⟨rfl, k4⟩; have t4 := Lib.hid (t2.out.trans k4); obtain ⟨b0, b1, b2, b3⟩ := bx4 (BX.out _ t4.out)) | (go_at_call 64; (with_reducible refine (D5.out _).mono ?_); rintro e w5 ⟨rfl, rfl⟩))
          go_ret
          exact .of E.out (ka.out.trans t4.out)
        | true =>
          have D5 := Lib.hid (C5.out true q5)
          have cont : (decide (cc = 0) || tak ck) = true → Calls Try.prog 52 #[.agg #[.int .i64 ck, .slice X nx xc, .slice Y na yc, .int .i64 cc], .slice D nd dc] w (RetT R w) := by
            intro q6
            have hnum : numOk ck nx ca cc = true := by rw [numOk, ← HNA.out, q1, q2, q3', q4, q5, q6]; rfl
            have HR2 := Lib.hid (show (cx.all (isV nd) && (bools ck cx).all (fun x => tru (domAt ds x))) = R by rw [← HR.out, hnum, Bool.true_and])
            have hp : ck = 4 ∨ ck = 5 ∨ ck = 6 → 0 < cx.length := fun e => by have := shp_pos q1 e; have := HNX.out; omega
            have D8 := Lib.hid (C8.out hp)
            have hcc : (cc != 0) = true → tak ck = true := fun e => by rw [bne_iff_ne] at e; rw [decide_eq_false e, Bool.false_or] at q6; exact q6
            clear HR hp hnum C1 C2 C4 C5 C8
            by_cases z0 : cc = 0
            · skip
              have z1 : (cc != 0) = false := by rw [bne_eq_false_iff_eq]; exact z0
              clear z0 hcc q1 q2 q3' q4 q5 q6
              go_enter Try.func52, Try.ntmps52
              go_wp2_with (first | (go_at_call 65; (with_reducible refine (D1.out _).mono ?_); rintro e w1 ⟨rfl, k1⟩; have t1 := Lib.hid (t0.out.trans k1); obtain ⟨b0, b1, b2, b3⟩ := bx4 (BX.out _ t1.out)) | (go_at_call 66; (with_reducible refine (D2.out _ (ka.out.trans t1.out)).mono ?_); rintro e w2 ⟨rfl, k2⟩; have t2 := Lib.hid (t1.out.trans k2); obtain ⟨b0, b1, b2, b3⟩ := bx4 (BX.out _ t2.out)) | (go_at_call 67; (with_reducible refine (D4.out _ (ka.out.trans t2.out)).mono ?_); rintro e w4 ⟨rfl, k4⟩; have t4 := Lib.hid (t2.out.trans k4); obtain ⟨b0, b1, b2, b3⟩ := bx4 (BX.out _ t4.out)) | (go_at_call 64; (with_reducible refine (D5.out _).mono ?_); rintro e w5 ⟨rfl, rfl⟩))
              go_loopw [47] (fun i wr => ∃ k : Nat, i = .int .i64 (k : Int) ∧ k ≤ nx ∧ Hid (((cx.drop k).all (isV nd) && (bools ck cx).all (fun x => tru (domAt ds x))) = R) ∧ Hid (cx.all (isV nd) = (cx.drop k).all (isV nd)) ∧ Hid (Since (w.alloc (.cells #[.int .i64 ck, .slice X nx xc, .slice Y na yc, .int .i64 cc] 25)) wr)) (fun i _ => nx - (intOf i).toNat)
              case atStart => exact ⟨0, rfl, Nat.zero_le _, HR2.out, rfl, t4.out⟩
              case round =>
                obtain ⟨k, rfl, hk, HE, HA, HW⟩ := hrel
                obtain ⟨b0, b1, b2, b3⟩ := bx4 (BX.out _ HW.out)
                by_cases hkn : k < nx
                · have hkl : k < cx.length := by have := HNX.out; omega
                  obtain ⟨g, o, rfl, e0⟩ := elI (H1.out.since stI (ka.out.trans HW.out)) hkl
                  have hst := HE.out
                  have hsa := HA.out
                  rw [dropI hkl, List.all_cons] at hst hsa
                  generalize cx[k] = y at *
                  have ST := Lib.hid hst
                  have SA := Lib.hid hsa
                  clear hst hsa hkl HE HA
                  cases hy : isV nd y with
                  | true =>
                    have HE := Lib.hid (show ((cx.drop (k + 1)).all (isV nd) && (bools ck cx).all (fun x => tru (domAt ds x))) = R by have := ST.out; rw [hy, Bool.true_and] at this; exact this)
                    have HA := Lib.hid (show cx.all (isV nd) = (cx.drop (k + 1)).all (isV nd) by have := SA.out; rw [hy, Bool.true_and] at this; exact this)
                    have D7 := Lib.hid (C7.out y true hy)
                    clear hy ST SA
                    go_wp2_with (go_at_call 69; (with_reducible refine (D7.out _).mono ?_); rintro e w7 ⟨rfl, rfl⟩)
                    go_roundw
                    case rel => exact ⟨k + 1, by go_num, by omega, HE.out, HA.out, HW.out⟩
                    case measure => simp [intOf]; omega
                  | false =>
                    have HE := Lib.hid (show false = R by have := ST.out; rw [hy, Bool.false_and, Bool.false_and] at this; exact this)
                    have D7 := Lib.hid (C7.out y false hy)
                    clear hy ST SA
                    go_wp2_with (go_at_call 69; (with_reducible refine (D7.out _).mono ?_); rintro e w7 ⟨rfl, rfl⟩)
                    go_ret
                    exact .of HE.out (ka.out.trans HW.out)
                · obtain rfl : k = nx := by omega
                  have hnil : cx.drop k = [] := List.drop_of_length_le (by have := HNX.out; omega)
                  have HB := Lib.hid (show (bools ck cx).all (fun x => tru (domAt ds x)) = R by rw [← HE.out, hnil]; rfl)
                  have HIN := Lib.hid (show ∀ y ∈ cx, isV nd y = true from List.all_eq_true.1 (by rw [HA.out, hnil]; rfl))
                  clear hnil HE HA
                  go_wp2_with (go_at_call 70; (with_reducible refine (D8.out _ (ka.out.trans HW.out)).mono ?_); rintro e w8 ⟨B, nb, bc, rfl, hnb, hB, k8⟩; have t8 := Lib.hid (HW.out.trans k8); have HBS := Lib.hid hB; have HNB := Lib.hid hnb; clear hB hnb)
                  have hnb : nb ≤ 1100000 := by have := HNB.out; have := bools_len ck cx; have := HNX.out; omega
                  go_loopw [59] (fun i wr => ∃ j : Nat, i = .int .i64 (j : Int) ∧ j ≤ nb ∧ Hid (((bools ck cx).drop j).all (fun x => tru (domAt ds x)) = R) ∧ Hid (Since w8 wr)) (fun i _ => nb - (intOf i).toNat)
                  case atStart => exact ⟨0, rfl, Nat.zero_le _, HB.out, Since.refl _⟩
                  case round =>
                    obtain ⟨j, rfl, hj, HE, HV⟩ := hrel
                    by_cases hjn : j < nb
                    · have hjl : j < (bools ck cx).length := by have := HNB.out; omega
                      obtain ⟨g, o, rfl, e0⟩ := elI (HBS.out.since stI HV.out) hjl
                      have hst := HE.out
                      rw [dropI hjl, List.all_cons] at hst
                      have hin := HIN.out _ (bools_sub (List.getElem_mem hjl))
                      generalize (bools ck cx)[j] = y at *
                      obtain ⟨q, rfl, hq⟩ := isV_nat hin
                      have hql : q < ds.length := by have := HND.out; omega
                      obtain ⟨g2, o2, B2, d2, rfl, S2, e2⟩ := elD (HD.out.since stD (ka.out.trans (t8.out.trans HV.out))) hql
                      rw [domAt_nat hql] at hst
                      have hdo := HOK.out _ (List.getElem_mem hql)
                      generalize ds[q] = dq at *
                      have IB := Lib.hid (fun b (hb : tru dq = b) => by have := isBoolean_any _ dq wr S2 hdo.1 hdo.2; rw [hb] at this; exact this)
                      obtain ⟨p, hp⟩ : ∃ p, p = dq.length := ⟨_, rfl⟩
                      rw [← hp] at e2 IB
                      have ST := Lib.hid hst
                      clear hst hjl HE hin hql S2 hdo hp
                      cases hy : tru dq with
                      | true =>
                        have HE := Lib.hid (show ((bools ck cx).drop (j + 1)).all (fun x => tru (domAt ds x)) = R by have := ST.out; rw [hy, Bool.true_and] at this; exact this)
                        have D9 := Lib.hid (IB.out true hy)
                        clear hy ST IB
                        go_wp2_with (go_at_call 71; (with_reducible refine D9.out.mono ?_); rintro e w9 ⟨rfl, rfl⟩)
                        go_roundw
                        case rel => exact ⟨j + 1, by go_num, by omega, HE.out, HV.out⟩
                        case measure => simp [intOf]; omega
                      | false =>
                        have HE := Lib.hid (show false = R by have := ST.out; rw [hy, Bool.false_and] at this; exact this)
                        have D9 := Lib.hid (IB.out false hy)
                        clear hy ST IB
                        go_wp2_with (go_at_call 71; (with_reducible refine D9.out.mono ?_); rintro e w9 ⟨rfl, rfl⟩)
                        go_ret
                        exact .of HE.out (ka.out.trans (t8.out.trans HV.out))
                    · obtain rfl : j = nb := by omega
                      have HE2 := Lib.hid (show true = R by rw [← HE.out, List.drop_of_length_le (by have := HNB.out; omega)]; rfl)
                      go_wp2
                      go_ret
                      exact .of HE2.out (ka.out.trans (t8.out.trans HV.out))
            · skip
              have z1 : (cc != 0) = true := by rw [bne_iff_ne]; exact z0
              have D6 := Lib.hid (C6.out true (hcc z1))
              clear z0 hcc q1 q2 q3' q4 q5 q6
              go_enter Try.func52, Try.ntmps52
              go_wp2_with (first | (go_at_call 65; (with_reducible refine (D1.out _).mono ?_); rintro e w1 ⟨rfl, k1⟩; have t1 := Lib.hid (t0.out.trans k1); obtain ⟨b0, b1, b2, b3⟩ := bx4 (BX.out _ t1.out)) | (go_at_call 66; (with_reducible refine (D2.out _ (ka.out.trans t1.out)).mono ?_); rintro e w2 ⟨rfl, k2⟩; have t2 := Lib.hid (t1.out.trans k2); obtain ⟨b0, b1, b2, b3⟩ := bx4 (BX.out _ t2.out)) | (go_at_call 67; (with_reducible refine (D4.out _ (ka.out.trans t2.out)).mono ?_); rintro e w4 ⟨rfl, k4⟩; have t4 := Lib.hid (t2.out.trans k4); obtain ⟨b0, b1, b2, b3⟩ := bx4 (BX.out _ t4.out)) | (go_at_call 64; (with_reducible refine (D5.out _).mono ?_); rintro e w5 ⟨rfl, rfl⟩) | (go_at_call 68; (with_reducible refine (D6.out _).mono ?_); rintro e w6 ⟨rfl, rfl⟩))
              go_loopw [47] (fun i wr => ∃ k : Nat, i = .int .i64 (k : Int) ∧ k ≤ nx ∧ Hid (((cx.drop k).all (isV nd) && (bools ck cx).all (fun x => tru (domAt ds x))) = R) ∧ Hid (cx.all (isV nd) = (cx.drop k).all (isV nd)) ∧ Hid (Since (w.alloc (.cells #[.int .i64 ck, .slice X nx xc, .slice Y na yc, .int .i64 cc] 25)) wr)) (fun i _ => nx - (intOf i).toNat)
              case atStart => exact ⟨0, rfl, Nat.zero_le _, HR2.out, rfl, t4.out⟩
              case round =>
                obtain ⟨k, rfl, hk, HE, HA, HW⟩ := hrel
                obtain ⟨b0, b1, b2, b3⟩ := bx4 (BX.out _ HW.out)
                by_cases hkn : k < nx
                · have hkl : k < cx.length := by have := HNX.out; omega
                  obtain ⟨g, o, rfl, e0⟩ := elI (H1.out.since stI (ka.out.trans HW.out)) hkl
                  have hst := HE.out
                  have hsa := HA.out
                  rw [dropI hkl, List.all_cons] at hst hsa
                  generalize cx[k] = y at *
                  have ST := Lib.hid hst
                  have SA := Lib.hid hsa
                  clear hst hsa hkl HE HA
                  cases hy : isV nd y with
                  | true =>
                    have HE := Lib.hid (show ((cx.drop (k + 1)).all (isV nd) && (bools ck cx).all (fun x => tru (domAt ds x))) = R by have := ST.out; rw [hy, Bool.true_and] at this; exact this)
                    have HA := Lib.hid (show cx.all (isV nd) = (cx.drop (k + 1)).all (isV nd) by have := SA.out; rw [hy, Bool.true_and] at this; exact this)
                    have D7 := Lib.hid (C7.out y true hy)
                    clear hy ST SA
                    go_wp2_with (go_at_call 69; (with_reducible refine (D7.out _).mono ?_); rintro e w7 ⟨rfl, rfl⟩)
                    go_roundw
                    case rel => exact ⟨k + 1, by go_num, by omega, HE.out, HA.out, HW.out⟩
                    case measure => simp [intOf]; omega
                  | false =>
                    have HE := Lib.hid (show false = R by have := ST.out; rw [hy, Bool.false_and, Bool.false_and] at this; exact this)
                    have D7 := Lib.hid (C7.out y false hy)
                    clear hy ST SA
                    go_wp2_with (go_at_call 69; (with_reducible refine (D7.out _).mono ?_); rintro e w7 ⟨rfl, rfl⟩)
                    go_ret
                    exact .of HE.out (ka.out.trans HW.out)
                · obtain rfl : k = nx := by omega
                  have hnil : cx.drop k = [] := List.drop_of_length_le (by have := HNX.out; omega)
                  have HB := Lib.hid (show (bools ck cx).all (fun x => tru (domAt ds x)) = R by rw [← HE.out, hnil]; rfl)
                  have HIN := Lib.hid (show ∀ y ∈ cx, isV nd y = true from List.all_eq_true.1 (by rw [HA.out, hnil]; rfl))
                  clear hnil HE HA
                  go_wp2_with (go_at_call 70; (with_reducible refine (D8.out _ (ka.out.trans HW.out)).mono ?_); rintro e w8 ⟨B, nb, bc, rfl, hnb, hB, k8⟩; have t8 := Lib.hid (HW.out.trans k8); have HBS := Lib.hid hB; have HNB := Lib.hid hnb; clear hB hnb)
                  have hnb : nb ≤ 1100000 := by have := HNB.out; have := bools_len ck cx; have := HNX.out; omega
                  go_loopw [59] (fun i wr => ∃ j : Nat, i = .int .i64 (j : Int) ∧ j ≤ nb ∧ Hid (((bools ck cx).drop j).all (fun x => tru (domAt ds x)) = R) ∧ Hid (Since w8 wr)) (fun i _ => nb - (intOf i).toNat)
                  case atStart => exact ⟨0, rfl, Nat.zero_le _, HB.out, Since.refl _⟩
                  case round =>
                    obtain ⟨j, rfl, hj, HE, HV⟩ := hrel
                    by_cases hjn : j < nb
                    · have hjl : j < (bools ck cx).length := by have := HNB.out; omega
                      obtain ⟨g, o, rfl, e0⟩ := elI (HBS.out.since stI HV.out) hjl
                      have hst := HE.out
                      rw [dropI hjl, List.all_cons] at hst
                      have hin := HIN.out _ (bools_sub (List.getElem_mem hjl))
                      generalize (bools ck cx)[j] = y at *
                      obtain ⟨q, rfl, hq⟩ := isV_nat hin
                      have hql : q < ds.length := by have := HND.out; omega
                      obtain ⟨g2, o2, B2, d2, rfl, S2, e2⟩ := elD (HD.out.since stD (ka.out.trans (t8.out.trans HV.out))) hql
                      rw [domAt_nat hql] at hst
                      have hdo := HOK.out _ (List.getElem_mem hql)
                      generalize ds[q] = dq at *
                      have IB := Lib.hid (fun b (hb : tru dq = b) => by have := isBoolean_any _ dq wr S2 hdo.1 hdo.2; rw [hb] at this; exact this)
                      obtain ⟨p, hp⟩ : ∃ p, p = dq.length := ⟨_, rfl⟩
                      rw [← hp] at e2 IB
                      have ST := Lib.hid hst
                      clear hst hjl HE hin hql S2 hdo hp
                      cases hy : tru dq with
                      | true =>
                        have HE := Lib.hid (show ((bools ck cx).drop (j + 1)).all (fun x => tru (domAt ds x)) = R by have := ST.out; rw [hy, Bool.true_and] at this; exact this)
                        have D9 := Lib.hid (IB.out true hy)
                        clear hy ST IB
                        go_wp2_with (go_at_call 71; (with_reducible refine D9.out.mono ?_); rintro e w9 ⟨rfl, rfl⟩)
                        go_roundw
                        case rel => exact ⟨j + 1, by go_num, by omega, HE.out, HV.out⟩
                        case measure => simp [intOf]; omega
                      | false =>
                        have HE := Lib.hid (show false = R by have := ST.out; rw [hy, Bool.false_and] at this; exact this)
                        have D9 := Lib.hid (IB.out false hy)
                        clear hy ST IB
                        go_wp2_with (go_at_call 71; (with_reducible refine D9.out.mono ?_); rintro e w9 ⟨rfl, rfl⟩)
                        go_ret
                        exact .of HE.out (ka.out.trans (t8.out.trans HV.out))
                    · obtain rfl : j = nb := by omega
                      have HE2 := Lib.hid (show true = R by rw [← HE.out, List.drop_of_length_le (by have := HNB.out; omega)]; rfl)
                      go_wp2
                      go_ret
                      exact .of HE2.out (ka.out.trans (t8.out.trans HV.out))
          by_cases z0 : cc = 0
          · exact cont (by rw [decide_eq_true z0]; rfl)
          cases q6 : tak ck with
          | true => exact cont (by rw [q6, Bool.or_true])
          | false =>
            have D6 := Lib.hid (C6.out false q6)
            have z1 : (cc != 0) = true := by rw [bne_iff_ne]; exact z0
            have z2 : decide (cc = 0) = false := decide_eq_false z0
            have E := Lib.hid (show false = R by rw [← HR.out, numOk, ← HNA.out, q1, q2, q3', q4, q5, q6, z2]; simp)
            clear cont
            go_enter Try.func52, Try.ntmps52
            go_wp2_with (first | (go_at_call 65; (with_reducible refine (D1.out _).mono ?_); rintro e w1 ⟨rfl, k1⟩; have t1 := Lib.hid (t0.out.trans k1); obtain ⟨b0, b1, b2, b3⟩ := bx4 (BX.out _ t1.out)) | (go_at_call 66; (with_reducible refine (D2.out _ (ka.out.trans t1.out)).mono ?_); rintro e w2 ⟨rfl, k2⟩; have t2 := Lib.hid (t1.out.trans k2); obtain ⟨b0, b1, b2, b3⟩ := bx4 (BX.out _ t2.out)) | (go_at_call 67; (with_reducible refine (D4.out _ (ka.out.trans t2.out)).mono ?_); rintro e w4 ⟨rfl, k4⟩; have t4 := Lib.hid (t2.out.trans k4); obtain ⟨b0, b1, b2, b3⟩ := bx4 (BX.out _ t4.out)) | (go_at_call 64; (with_reducible refine (D5.out _).mono ?_); rintro e w5 ⟨rfl, rfl⟩) | (go_at_call 68; (with_reducible refine (D6.out _).mono ?_); rintro e w6 ⟨rfl, rfl⟩))
            go_ret
            exact .of E.out (ka.out.trans t4.out)
end Go.Proofs.Ytfcinefmnigacaa.Sn
