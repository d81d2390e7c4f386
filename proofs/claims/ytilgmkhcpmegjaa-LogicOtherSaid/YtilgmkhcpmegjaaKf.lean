/- Layer 11 (sense): the document's own Asked. -/
import Derived.Test.YtilgmkhcpmegjaaKa
import Derived.Test.YtilgmkhcpmegjaaQam
namespace Go.Proofs.Ytilgmkhcpmegjaa.Sn
open Go.RowKit
set_option linter.unusedVariables false
set_option linter.unusedSimpArgs false
open Go.Proofs.Ytilgmkhcpmegjaa.Dig Go.Proofs.Ytilgmkhcpmegjaa.Lx Go.Proofs.Ytilgmkhcpmegjaa.Tk Go.Proofs.Ytilgmkhcpmegjaa.Ti Go.Proofs.Ytilgmkhcpmegjaa.Zs Go.Proofs.Ytilgmkhcpmegjaa.Tr
set_option maxRecDepth 20000 in
set_option maxHeartbeats 3000000 in
theorem rasked_any (v va : Value) (c : Cn) (a : List Int) (w : World) (h : ConAt w v c) (ha : Sl 1 QI w va a) (hx : c.x.length ≤ 1100000) (hca : c.a.length ≤ 1100000) (hla : a.length ≤ 1100000) :
    Calls Try.prog 113 #[v, va] w (RetT (asked c a) w) := by
  obtain ⟨vx, vy, rfl, h1, h2⟩ := h
  obtain ⟨ck, cx, ca, cc⟩ := c
  simp only at h1 h2 hx hca ⊢
  obtain ⟨X, xc, rfl⟩ := h1.form
  obtain ⟨Y, yc, rfl⟩ := h2.form
  obtain ⟨A, ac, rfl⟩ := ha.form
  obtain ⟨nx, hnx⟩ : ∃ n, n = cx.length := ⟨_, rfl⟩
  obtain ⟨na, hna⟩ : ∃ n, n = ca.length := ⟨_, rfl⟩
  obtain ⟨nl, hnl⟩ : ∃ n, n = a.length := ⟨_, rfl⟩
  obtain ⟨R, hR⟩ : ∃ R, R = asked ⟨ck, cx, ca, cc⟩ a := ⟨_, rfl⟩
  have HR := Lib.hid (show (cx.all (isV nl) && askV ck (vals cx a) ca cc) = R by rw [hR, hnl]; rfl)
  rw [← hR]
  rw [← hnx] at h1 hx ⊢
  rw [← hna] at h2 hca ⊢
  rw [← hnl] at ha hla ⊢
  have H1 := Lib.hid h1
  have H2 := Lib.hid h2
  have H3 := Lib.hid ha
  have HNX := Lib.hid hnx
  have HNA := Lib.hid hna
  have HNL := Lib.hid hnl
  have WI := Lib.hid (fun (y : Int) b (hb : within y = b) W => by have := Zs.within_any y W; rw [hb] at this; exact this)
  have ka := Lib.hid (since_alloc w (.cells #[.int .i64 ck, .slice X nx xc, .slice Y na yc, .int .i64 cc] 25))
  clear h1 h2 ha hnx hna hnl hR
  by_cases c128 : na ≤ 128
  case neg =>
    have E := Lib.hid (show false = R by
      cases hr : R with
      | false => rfl
      | true =>
        exfalso
        have hh := HR.out
        rw [hr, Bool.and_eq_true] at hh
        have := hh.2
        simp only [askV, numOk, Bool.and_eq_true, decide_eq_true_eq, vals_len] at this
        have h9 := shp_le this.1.2.1.1.1.1.1 this.1.2.1.1.1.2
        have := HNA.out
        omega)
    go_enter Try.func113, Try.ntmps113
    go_wp2
    go_ret
    exact .of E.out ka.out
  by_cases c32 : nx ≤ 32
  case neg =>
    have E := Lib.hid (show false = R by rw [← HR.out, askV, numOk, vals_len, ← HNX.out, decide_eq_false c32]; simp)
    go_enter Try.func113, Try.ntmps113
    go_wp2
    go_ret
    exact .of E.out ka.out
  have BC := Lib.hid (fun W (kk : Since (w.alloc (.cells #[.int .i64 ck, .slice X nx xc, .slice Y na yc, .int .i64 cc] 25)) W) => (Bx.fresh w #[.int .i64 ck, .slice X nx xc, .slice Y na yc, .int .i64 cc] 25).since kk)
  have BM := Lib.hid (show Bx ((w.alloc (.cells #[.int .i64 ck, .slice X nx xc, .slice Y na yc, .int .i64 cc] 25)).alloc (.cells #[.slice none 0 0, .slice none 0 0, .int .i64 0, .int .i64 0] 79)) (w.heap.size + 1) #[.slice none 0 0, .slice none 0 0, .int .i64 0, .int .i64 0] 79 from Bx.new (Since.refl _) (by simp))
  have S2 := Lib.hid (show Since w ((w.alloc (.cells #[.int .i64 ck, .slice X nx xc, .slice Y na yc, .int .i64 cc] 25)).alloc (.cells #[.slice none 0 0, .slice none 0 0, .int .i64 0, .int .i64 0] 79)) from ((Since.refl w).alloc _).alloc _)
  have S1 := Lib.hid (show Since (w.alloc (.cells #[.int .i64 ck, .slice X nx xc, .slice Y na yc, .int .i64 cc] 25)) ((w.alloc (.cells #[.int .i64 ck, .slice X nx xc, .slice Y na yc, .int .i64 cc] 25)).alloc (.cells #[.slice none 0 0, .slice none 0 0, .int .i64 0, .int .i64 0] 79)) from since_alloc _ _)
  go_enter Try.func113, Try.ntmps113
  go_wp2
  go_loopw [6] (fun i wr => ∃ k : Nat, i = .int .i64 (k : Int) ∧ k ≤ nx ∧ Hid ((cx.drop k).all (isV nl) = cx.all (isV nl)) ∧ Hid ((vals (cx.drop k) a).all within = (vals cx a).all within) ∧ Hid (Since ((w.alloc (.cells #[.int .i64 ck, .slice X nx xc, .slice Y na yc, .int .i64 cc] 25)).alloc (.cells #[.slice none 0 0, .slice none 0 0, .int .i64 0, .int .i64 0] 79)) wr)) (fun i _ => nx - (intOf i).toNat)
  case atStart => exact ⟨0, rfl, Nat.zero_le _, rfl, rfl, Since.refl _⟩
  case round =>
    obtain ⟨k, rfl, hk, HA, HI, HW⟩ := hrel
    obtain ⟨b0, b1, b2, b3⟩ := bx4 (BC.out _ (S1.out.trans HW.out))
    by_cases hkn : k < nx
    · have hkl : k < cx.length := by have := HNX.out; omega
      obtain ⟨g, o, rfl, e0⟩ := elI (H1.out.since stI (S2.out.trans HW.out)) hkl
      have hsa := HA.out
      have hsi := HI.out
      rw [dropI hkl] at hsa hsi
      rw [List.all_cons] at hsa
      simp only [vals, List.map_cons, List.all_cons] at hsi
      generalize cx[k] = y at *
      have SA := Lib.hid hsa
      have SI := Lib.hid hsi
      clear hsa hsi hkl HA HI
      by_cases y0 : y < 0
      · have E := Lib.hid (show false = R by rw [← HR.out, ← SA.out, show isV nl y = false by simp only [isV, Bool.and_eq_false_iff, decide_eq_false_iff_not]; omega]; simp)
        clear SA SI
        go_wp2
        go_ret
        exact .of E.out (S2.out.trans HW.out)
      by_cases y1 : y ≥ (nl : Int)
      · have E := Lib.hid (show false = R by rw [← HR.out, ← SA.out, show isV nl y = false by simp only [isV, Bool.and_eq_false_iff, decide_eq_false_iff_not]; omega]; simp)
        clear SA SI
        go_wp2
        go_ret
        exact .of E.out (S2.out.trans HW.out)
      obtain ⟨q, rfl⟩ : ∃ q : Nat, y = (q : Int) := ⟨y.toNat, by omega⟩
      have hqn : q < nl := by omega
      have hql : q < a.length := by have := HNL.out; omega
      obtain ⟨g2, o2, rfl, e2⟩ := elI (H3.out.since stI (S2.out.trans HW.out)) hql
      have hva : valAt a (q : Int) = a[q] := by simp [valAt, hql]
      have HAK := Lib.hid (show (cx.drop (k + 1)).all (isV nl) = cx.all (isV nl) by have := SA.out; rw [show isV nl (q : Int) = true by simp only [isV, Bool.and_eq_true, decide_eq_true_eq]; omega, Bool.true_and] at this; exact this)
      have hsi := SI.out
      rw [hva] at hsi
      have SJ := Lib.hid hsi
      generalize a[q] = z at *
      clear hsi hql hva SA SI
      cases hz : within z with
      | false =>
        have E := Lib.hid (show false = R by
          have := SJ.out
          rw [hz, Bool.false_and] at this
          rw [← HR.out, askV, ← show false = (vals cx a).all within from this]; simp)
        have D := Lib.hid (WI.out z false hz)
        clear hz SJ
        go_wp2_with (go_at_call 136; (with_reducible refine (D.out _).mono ?_); rintro e w8 ⟨rfl, rfl⟩)
        go_ret
        exact .of E.out (S2.out.trans HW.out)
      | true =>
        have HI2 := Lib.hid (show (vals (cx.drop (k + 1)) a).all within = (vals cx a).all within by have := SJ.out; rw [hz, Bool.true_and] at this; exact this)
        have D := Lib.hid (WI.out z true hz)
        clear hz SJ
        go_wp2_with (go_at_call 136; (with_reducible refine (D.out _).mono ?_); rintro e w8 ⟨rfl, rfl⟩)
        go_roundw
        case rel => exact ⟨k + 1, by go_num, by omega, HAK.out, HI2.out, HW.out⟩
        case measure => simp [intOf]; omega
    · obtain rfl : nx = k := by omega
      have hnil : cx.drop nx = [] := List.drop_of_length_le (by have := HNX.out; omega)
      have HIN := Lib.hid (show cx.all (isV nl) = true by rw [← HA.out, hnil]; rfl)
      have HWA := Lib.hid (show (vals cx a).all within = true by rw [← HI.out, hnil]; rfl)
      have HK := Lib.hid (show askV ck (vals cx a) ca cc = R by rw [← HR.out, HIN.out, Bool.true_and])
      have SX := Lib.hid HW.out
      clear hnil HA HI HR
      rename World => w5
      obtain ⟨w6, hw6⟩ : ∃ w6, w6 = w5.alloc (.cells #[.int .i64 ck, .slice none 0 0, .slice Y na yc, .int .i64 cc] 25) := ⟨_, rfl⟩
      have S6 := Lib.hid (show Since w5 w6 by rw [hw6]; exact since_alloc _ _)
      have B6 := Lib.hid (show Bx w6 w5.heap.size #[.int .i64 ck, .slice none 0 0, .slice Y na yc, .int .i64 cc] 25 by rw [hw6]; exact Bx.fresh _ _ _)
      have Z5 := Lib.hid (show w.heap.size + 1 < w5.heap.size by have := SX.out.size; simp at this; omega)
      have Z6 := Lib.hid (show w6.heap.size = w5.heap.size + 1 by rw [hw6]; simp)
      have BM5 := Lib.hid (BM.out.since (SX.out.trans S6.out))
      go_wp2
      rw [← hw6]
      clear hw6 b0 b1 b2 b3
      go_loopw [8] (fun i wr => ∃ (j : Nat) (P : Option Addr) (pc : Nat) (Q : Option Addr) (qc : Nat), i = .int .i64 (j : Int) ∧ j ≤ nx ∧ Hid (Two (w.alloc (.cells #[.int .i64 ck, .slice X nx xc, .slice Y na yc, .int .i64 cc] 25)) wr (fun b => b = w.heap.size + 1 ∨ b = w5.heap.size) (.slice P j pc) (.slice Q j qc) j j (vals cx a)) ∧ Hid (Bx wr w5.heap.size #[.int .i64 ck, .slice P j pc, .slice Y na yc, .int .i64 cc] 25) ∧ Hid (Bx wr (w.heap.size + 1) #[.slice Q j qc, .slice none 0 0, .int .i64 0, .int .i64 0] 79)) (fun i _ => nx - (intOf i).toNat)
      case atStart => exact ⟨0, none, 0, none, 0, rfl, Nat.zero_le _, Two.nil (S1.out.trans (SX.out.trans S6.out)) (fun b hb => by have := Z5.out; have := Z6.out; omega) _, B6.out, BM5.out⟩
      case round =>
        obtain ⟨j, P, pc, Q, qc, rfl, hj, T, HD, HM⟩ := hrel
        obtain ⟨c0, c1, c2, c3⟩ := bx4 (BC.out _ T.out.s)
        obtain ⟨d0, d1, d2, d3⟩ := bx4 HD.out
        obtain ⟨m0, m1, m2, m3⟩ := bx4 HM.out
        obtain ⟨hlt, hnx, hnd⟩ := T.out.2.2.2 _ (Or.inl rfl)
        obtain ⟨hlt2, hnx2, hnd2⟩ := T.out.2.2.2 _ (Or.inr rfl)
        by_cases hjn : j < nx
        · have hjx : j < cx.length := by have := HNX.out; omega
          have hwb : (w.alloc (.cells #[.int .i64 ck, .slice X nx xc, .slice Y na yc, .int .i64 cc] 25)).heap.size ≤ w.heap.size + 1 := by simp
          have hwb2 : (w.alloc (.cells #[.int .i64 ck, .slice X nx xc, .slice Y na yc, .int .i64 cc] 25)).heap.size ≤ w5.heap.size := by have := Z5.out; simp; omega
          have HWB := Lib.hid hwb
          have HWB2 := Lib.hid hwb2
          have hjv : j < (vals cx a).length := by rw [vals_len]; exact hjx
          obtain ⟨g, o, rfl, e0⟩ := elI (H1.out.since stI (ka.out.trans T.out.s)) hjx
          have hin := List.all_eq_true.1 HIN.out _ (List.getElem_mem hjx)
          have hyv : (vals cx a)[j] = valAt a cx[j] := by simp [vals]
          generalize cx[j] = y at *
          obtain ⟨q, rfl, hq⟩ := isV_nat hin
          have hql : q < a.length := by have := HNL.out; omega
          obtain ⟨g2, o2, rfl, e2⟩ := elI (H3.out.since stI (ka.out.trans T.out.s)) hql
          have hva : valAt a (q : Int) = a[q] := by simp [valAt, hql]
          rw [hva] at hyv
          generalize a[q] = z at *
          have HY := Lib.hid (show z = (vals cx a)[j] from hyv.symm)
          have HJV := Lib.hid hjv
          have HL := Lib.hid (show (vals cx a).length ≤ 1000 by rw [vals_len]; have := HNX.out; omega)
          have hj1000 : j ≤ 1000 := by omega
          have HNXX := Lib.hid hnx2
          have HNDD := Lib.hid hnd
          have HNX1 := Lib.hid hnx
          have HND1 := Lib.hid hnd2
          have HNE := Lib.hid (show w5.heap.size ≠ w.heap.size + 1 by have := Z5.out; omega)
          have F0 := Lib.hid (two_new wr z (g := wr.heap.size) rfl)
          clear hlt hnx hnd hlt2 hnx2 hnd2 hin hql hva hyv hjx hwb hwb2
          go_wp2_with (first
            | (at_builtin; refine wpList_twoD (T.out.since (((Since.refl _).alloc _).alloc _)) HJV.out HL.out (wr.heap.size + 1) 1 wr.heap.size F0.out.1 (HY.out ▸ F0.out.2) (T.out.farX) (T.out.farD) (T.out.farB) (by rfl) _ _ rfl rfl rfl ?_
               intro A4 c4 w4 t4 q4
               have bm := q4 _ _ _ (HM.out.since (((Since.refl _).alloc _).alloc _)) HNDD.out
               have bd := q4 _ _ _ (HD.out.since (((Since.refl _).alloc _).alloc _)) HND1.out
               obtain ⟨f0, f1, f2, f3⟩ := bx4 bm
               obtain ⟨g0, g1, g2', g3⟩ := bx4' bm
               have T4 := Lib.hid (t4.set (i := 0) HWB.out (Or.inl rfl) (.slice A4 (j + 1) c4))
               have M4 := Lib.hid (bxset bm 0 (.slice A4 (j + 1) c4) rfl)
               have D4 := Lib.hid (bd.other HNE.out 0 (.slice A4 (j + 1) c4))
               obtain ⟨d0, d1, d2, d3⟩ := bx4 D4.out
               have F5 := Lib.hid (Bx.new (n := w4.heap.size) (W := w4.setCell ⟨w.heap.size + 1, 0, none⟩ (.slice A4 (j + 1) c4)) (cs := #[.int .i64 (j : Int)]) (t := 3) (Since.refl _) (by simp [World.setCell]))
               clear bm bd t4 q4)
            | (at_builtin; refine wpList_twoX (T4.out.since (since_alloc _ _)) hj1000 w4.heap.size 1 (F5.out.cell 0) (by rfl) _ _ rfl rfl rfl ?_
               intro A5 c5 w6' t6 q6
               have bd := q6 _ _ _ (D4.out.since (since_alloc _ _)) HNXX.out
               have bm := q6 _ _ _ (M4.out.since (since_alloc _ _)) HNX1.out
               obtain ⟨f0, f1, f2, f3⟩ := bx4 bd
               obtain ⟨g0, g1, g2', g3⟩ := bx4' bd
               have T6 := Lib.hid (t6.set (i := 1) HWB2.out (Or.inr rfl) (.slice A5 (j + 1) c5))
               have D6 := Lib.hid (bxset bd 1 (.slice A5 (j + 1) c5) rfl)
               have M6 := Lib.hid (bm.other HNE.out.symm 1 (.slice A5 (j + 1) c5))
               clear bm bd t6 q6))
          go_roundw
          case rel => exact ⟨j + 1, A5, c5, A4, c4, by go_num, by omega, T6.out, D6.out, M6.out⟩
          case measure => simp [intOf]; omega
        · obtain rfl : nx = j := by omega
          have hvt : (vals cx a).take nx = vals cx a := List.take_of_length_le (by rw [vals_len]; have := HNX.out; omega)
          have hX := T.out.slX
          have hD := T.out.slD
          rw [hvt] at hD
          have h2 := H2.out.since stI (ka.out.trans T.out.s)
          have MR := Lib.hid (show Calls Try.prog 141 #[.agg #[.slice Q nx qc, .slice none 0 0, .int .i64 0, .int .i64 0], .agg #[.int .i64 ck, .slice P nx pc, .slice Y na yc, .int .i64 cc]] wr (RetT R wr) by
            have := rcon_any (.agg #[.slice Q nx qc, .slice none 0 0, .int .i64 0, .int .i64 0]) (.agg #[.int .i64 ck, .slice P nx pc, .slice Y na yc, .int .i64 cc]) ⟨sing (vals cx a), [], 0, 0⟩ ⟨ck, iot nx, ca, cc⟩ wr ⟨_, _, rfl, hD, Sl.nil _ _ _⟩ ⟨_, _, rfl, hX, h2⟩ (by
              intro d hd
              simp only [sing, List.mem_map] at hd
              obtain ⟨n, -, rfl⟩ := hd
              simp) (by simp only [iot_len]; omega) (by have := HNA.out; show ca.length ≤ 1100000; omega) (by show (sing (vals cx a)).length ≤ 1100000; rw [sing_len, vals_len]; have := HNX.out; omega)
            have e : conOk (sing (vals cx a)) ⟨ck, iot nx, ca, cc⟩ = R := by
              have h9 := con_sing ck (vals cx a) ca cc
              rw [HWA.out, Bool.true_and, HK.out, vals_len, ← HNX.out] at h9
              exact h9
            rw [e] at this
            exact this)
          clear hX hD h2 hvt
          go_wp2_with (go_at_call 141; (with_reducible refine MR.out.mono ?_); rintro e w9 ⟨rfl, k9⟩)
          go_ret
          exact ⟨rfl, ka.out.trans (T.out.s.trans k9)⟩
section
set_option linter.unusedVariables false
open Go.Proofs.Ytilgmkhcpmegjaa.Zs
theorem within_iff2 (x : Int) : within x = true ↔ -1048576 ≤ x ∧ x ≤ 1048576 := by simp only [within, mx, Bool.and_eq_true, decide_eq_true_eq]
theorem askV_all {k : Int} {v a : List Int} {c : Int} (h : askV k v a c = true) : v.all within = true ∧ shp k v.length a.length = true ∧ sgn k a c = true ∧ v.length ≤ 32 ∧ a.all within = true ∧ within c = true ∧ (decide (c = 0) || tak k) = true ∧ (bools k v).all bit = true := by
  simp only [askV, numOk, Bool.and_eq_true, decide_eq_true_eq] at h
  exact ⟨h.1.1, h.1.2.1.1.1.1.1, h.1.2.1.1.1.1.2, h.1.2.1.1.1.2, h.1.2.1.1.2, h.1.2.1.2, h.1.2.2, h.2⟩
theorem asked_parts {c : Cn} {a : List Int} (h : asked c a = true) : inR c.x a = true ∧ askV c.k (vals c.x a) c.a c.c = true := by
  rw [asked, Bool.and_eq_true] at h; exact h
end
end Go.Proofs.Ytilgmkhcpmegjaa.Sn
