/- Layer 11 (sense): the document's own Asked. -/
import Derived.Test.YtakfabaocgbbmaaKa
import Derived.Test.YtakfabaocgbbmaaUk
import Derived.Test.YtakfabaocgbbmaaUa
namespace Go.Proofs.Ytakfabaocgbbmaa.Sn
open Go.RowKit
set_option linter.unusedVariables false
set_option linter.unusedSimpArgs false
open Go.Proofs.Ytakfabaocgbbmaa.Dig Go.Proofs.Ytakfabaocgbbmaa.Lx Go.Proofs.Ytakfabaocgbbmaa.Tk Go.Proofs.Ytakfabaocgbbmaa.Ti Go.Proofs.Ytakfabaocgbbmaa.Zs Go.Proofs.Ytakfabaocgbbmaa.Tr

set_option maxRecDepth 20000 in
set_option maxHeartbeats 3000000 in
theorem rasked_any (v va : Value) (c : Cn) (a : List Int) (w : World) (h : ConAt w v c) (ha : Sl 1 QI w va a) (hx : c.x.length ≤ 1100000) (hca : c.a.length ≤ 1100000) (hla : a.length ≤ 1100000) :
    Calls Try.prog 62 #[v, va] w (RetT (asked c a) w) := by
  obtain ⟨vx, vy, rfl, h1, h2⟩ := h
  obtain ⟨ck, cx, ca, cc⟩ := c
  simp only at h1 h2 hx hca ⊢
  obtain ⟨X, xc, rfl⟩ := h1.form
  obtain ⟨Y, yc, rfl⟩ := h2.form
  obtain ⟨A, ac, rfl⟩ := ha.form
  obtain ⟨nx, hnx⟩ : ∃ n, n = cx.length := ⟨_, rfl⟩
  obtain ⟨na, hna⟩ : ∃ n, n = ca.length := ⟨_, rfl⟩
  obtain ⟨nl, hnl⟩ : ∃ n, n = a.length := ⟨_, rfl⟩
  obtain ⟨R, hR⟩ : ∃ R, R = asked ⟨ck, cx, ca, cc⟩ a := ⟨_, rfl⟩
  have HR := Lib.hid (show (cx.all (isV nl) && askV ck (vals cx a) ca cc) = R by rw [hR, hnl]; rfl)
  rw [← hR]
  rw [← hnx] at h1 hx ⊢
  rw [← hna] at h2 hca ⊢
  rw [← hnl] at ha hla ⊢
  have H1 := Lib.hid h1
  have H2 := Lib.hid h2
  have H3 := Lib.hid ha
  have HNX := Lib.hid hnx
  have HNA := Lib.hid hna
  have HNL := Lib.hid hnl
  have WI := Lib.hid (fun (y : Int) b (hb : within y = b) W => by have := Zs.within_any y W; rw [hb] at this; exact this)
  have ka := Lib.hid (since_alloc w (.cells #[.int .i64 ck, .slice X nx xc, .slice Y na yc, .int .i64 cc] 25))
  clear h1 h2 ha hnx hna hnl hR
  by_cases c128 : na ≤ 128
  case neg =>
    have E := Lib.hid (show false = R by
      cases hr : R with
      | false => rfl
      | true =>
        exfalso
        have hh := HR.out
        rw [hr, Bool.and_eq_true] at hh
        have := hh.2
        simp only [askV, numOk, Bool.and_eq_true, decide_eq_true_eq, vals_len] at this
        have h9 := shp_le this.1.2.1.1.1.1.1 this.1.2.1.1.1.2
        have := HNA.out
        omega)
    go_enter Try.func62, Try.ntmps62
    go_wp2
    go_ret
    exact .of E.out ka.out
  by_cases c32 : nx ≤ 32
  case neg =>
    have E := Lib.hid (show false = R by rw [← HR.out, askV, numOk, vals_len, ← HNX.out, decide_eq_false c32]; simp)
    go_enter Try.func62, Try.ntmps62
    go_wp2
    go_ret
    exact .of E.out ka.out
  have BC := Lib.hid (fun W (kk : Since (w.alloc (.cells #[.int .i64 ck, .slice X nx xc, .slice Y na yc, .int .i64 cc] 25)) W) => (Bx.fresh w #[.int .i64 ck, .slice X nx xc, .slice Y na yc, .int .i64 cc] 25).since kk)
  have BM := Lib.hid (show Bx ((w.alloc (.cells #[.int .i64 ck, .slice X nx xc, .slice Y na yc, .int .i64 cc] 25)).alloc (.cells #[.slice none 0 0, .slice none 0 0, .int .i64 0, .int .i64 0] 52)) (w.heap.size + 1) #[.slice none 0 0, .slice none 0 0, .int .i64 0, .int .i64 0] 52 from Bx.new (Since.refl _) (by simp))
  have S2 := Lib.hid (show Since w ((w.alloc (.cells #[.int .i64 ck, .slice X nx xc, .slice Y na yc, .int .i64 cc] 25)).alloc (.cells #[.slice none 0 0, .slice none 0 0, .int .i64 0, .int .i64 0] 52)) from ((Since.refl w).alloc _).alloc _)
  have S1 := Lib.hid (show Since (w.alloc (.cells #[.int .i64 ck, .slice X nx xc, .slice Y na yc, .int .i64 cc] 25)) ((w.alloc (.cells #[.int .i64 ck, .slice X nx xc, .slice Y na yc, .int .i64 cc] 25)).alloc (.cells #[.slice none 0 0, .slice none 0 0, .int .i64 0, .int .i64 0] 52)) from since_alloc _ _)
  go_enter Try.func62, Try.ntmps62
  go_wp2
  go_loopw [6] (fun i wr => ∃ k : Nat, i = .int .i64 (k : Int) ∧ k ≤ nx ∧ Hid ((cx.drop k).all (isV nl) = cx.all (isV nl)) ∧ Hid ((vals (cx.drop k) a).all within = (vals cx a).all within) ∧ Hid (Since ((w.alloc (.cells #[.int .i64 ck, .slice X nx xc, .slice Y na yc, .int .i64 cc] 25)).alloc (.cells #[.slice none 0 0, .slice none 0 0, .int .i64 0, .int .i64 0] 52)) wr)) (fun i _ => nx - (intOf i).toNat)
  case atStart => exact ⟨0, rfl, Nat.zero_le _, rfl, rfl, Since.refl _⟩
  case round =>
    obtain ⟨k, rfl, hk, HA, HI, HW⟩ := hrel
    obtain ⟨b0, b1, b2, b3⟩ := bx4 (BC.out _ (S1.out.trans HW.out))
    by_cases hkn : k < nx
    · have hkl : k < cx.length := by have := HNX.out; omega
      obtain ⟨g, o, rfl, e0⟩ := elI (H1.out.since stI (S2.out.trans HW.out)) hkl
      have hsa := HA.out
      have hsi := HI.out
      rw [dropI hkl] at hsa hsi
      rw [List.all_cons] at hsa
      simp only [vals, List.map_cons, List.all_cons] at hsi
      generalize cx[k] = y at *
      have SA := Lib.hid hsa
      have SI := Lib.hid hsi
      clear hsa hsi hkl HA HI
      by_cases y0 : y < 0
      · have E := Lib.hid (show false = R by rw [← HR.out, ← SA.out, show isV nl y = false by simp only [isV, Bool.and_eq_false_iff, decide_eq_false_iff_not]; omega]; simp)
        clear SA SI
        go_wp2
        go_ret
        exact .of E.out (S2.out.trans HW.out)
      by_cases y1 : y ≥ (nl : Int)
      · have E := Lib.hid (show false = R by rw [← HR.out, ← SA.out, show isV nl y = false by simp only [isV, Bool.and_eq_false_iff, decide_eq_false_iff_not]; omega]; simp)
        clear SA SI
        go_wp2
        go_ret
        exact .of E.out (S2.out.trans HW.out)
      obtain ⟨q, rfl⟩ : ∃ q : Nat, y = (q : Int) := ⟨y.toNat, by omega⟩
      have hqn : q < nl := by omega
      have hql : q < a.length := by have := HNL.out; omega
      obtain ⟨g2, o2, rfl, e2⟩ := elI (H3.out.since stI (S2.out.trans HW.out)) hql
      have hva : valAt a (q : Int) = a[q] := by simp [valAt, hql]
      have HAK := Lib.hid (show (cx.drop (k + 1)).all (isV nl) = cx.all (isV nl) by have := SA.out; rw [show isV nl (q : Int) = true by simp only [isV, Bool.and_eq_true, decide_eq_true_eq]; omega, Bool.true_and] at this; exact this)
      have hsi := SI.out
      rw [hva] at hsi
      have SJ := Lib.hid hsi
      generalize a[q] = z at *
      clear hsi hql hva SA SI
      cases hz : within z with
      | false =>
        have E := Lib.hid (show false = R by
          have := SJ.out
          rw [hz, Bool.false_and] at this
          rw [← HR.out, askV, ← show false = (vals cx a).all within from this]; simp)
        have D := Lib.hid (WI.out z false hz)
        clear hz SJ
        go_wp2_with (go_at_call 87; (with_reducible refine (D.out _).mono ?_); rintro e w8 ⟨rfl, rfl⟩)
        go_ret
        exact .of E.out (S2.out.trans HW.out)
      | true =>
        have HI2 := Lib.hid (show (vals (cx.drop (k + 1)) a).all within = (vals cx a).all within by have := SJ.out; rw [hz, Bool.true_and] at this; exact this)
        have D := Lib.hid (WI.out z true hz)
        clear hz SJ
        go_wp2_with (go_at_call 87; (with_reducible refine (D.out _).mono ?_); rintro e w8 ⟨rfl, rfl⟩)
        go_roundw
        case rel => exact ⟨k + 1, by go_num, by omega, HAK.out, HI2.out, HW.out⟩
        case measure => simp [intOf]; omega
    · obtain rfl : nx = k := by omega
      have hnil : cx.drop nx = [] := List.drop_of_length_le (by have := HNX.out; omega)
      have HIN := Lib.hid (show cx.all (isV nl) = true by rw [← HA.out, hnil]; rfl)
      have HWA := Lib.hid (show (vals cx a).all within = true by rw [← HI.out, hnil]; rfl)
      have HK := Lib.hid (show askV ck (vals cx a) ca cc = R by rw [← HR.out, HIN.out, Bool.true_and])
      have SX := Lib.hid HW.out
      clear hnil HA HI HR
      rename World => w5
      obtain ⟨w6, hw6⟩ : ∃ w6, w6 = w5.alloc (.cells #[.int .i64 ck, .slice none 0 0, .slice Y na yc, .int .i64 cc] 25) := ⟨_, rfl⟩
      have S6 := Lib.hid (show Since w5 w6 by rw [hw6]; exact since_alloc _ _)
      have B6 := Lib.hid (show Bx w6 w5.heap.size #[.int .i64 ck, .slice none 0 0, .slice Y na yc, .int .i64 cc] 25 by rw [hw6]; exact Bx.fresh _ _ _)
      have Z5 := Lib.hid (show w.heap.size + 1 < w5.heap.size by have := SX.out.size; simp at this; omega)
      have Z6 := Lib.hid (show w6.heap.size = w5.heap.size + 1 by rw [hw6]; simp)
      have BM5 := Lib.hid (BM.out.since (SX.out.trans S6.out))
      go_wp2
      rw [← hw6]
      clear hw6 b0 b1 b2 b3
      go_loopw [8] (fun i wr => ∃ (j : Nat) (P : Option Addr) (pc : Nat) (Q : Option Addr) (qc : Nat), i = .int .i64 (j : Int) ∧ j ≤ nx ∧ Hid (Two (w.alloc (.cells #[.int .i64 ck, .slice X nx xc, .slice Y na yc, .int .i64 cc] 25)) wr (fun b => b = w.heap.size + 1 ∨ b = w5.heap.size) (.slice P j pc) (.slice Q j qc) j j (vals cx a)) ∧ Hid (Bx wr w5.heap.size #[.int .i64 ck, .slice P j pc, .slice Y na yc, .int .i64 cc] 25) ∧ Hid (Bx wr (w.heap.size + 1) #[.slice Q j qc, .slice none 0 0, .int .i64 0, .int .i64 0] 52)) (fun i _ => nx - (intOf i).toNat)
      case atStart => exact ⟨0, none, 0, none, 0, rfl, Nat.zero_le _, Two.nil (S1.out.trans (SX.out.trans S6.out)) (fun b hb => by have := Z5.out; have := Z6.out; omega) _, B6.out, BM5.out⟩
      case round =>
        obtain ⟨j, P, pc, Q, qc, rfl, hj, T, HD, HM⟩ := hrel
        obtain ⟨c0, c1, c2, c3⟩ := bx4 (BC.out _ T.out.s)
        obtain ⟨d0, d1, d2, d3⟩ := bx4 HD.out
        obtain ⟨m0, m1, m2, m3⟩ := bx4 HM.out
        obtain ⟨hlt, hnx, hnd⟩ := T.out.2.2.2 _ (Or.inl rfl)
        obtain ⟨hlt2, hnx2, hnd2⟩ := T.out.2.2.2 _ (Or.inr rfl)
        by_cases hjn : j < nx
        · have hjx : j < cx.length := by have := HNX.out; omega
          have hwb : (w.alloc (.cells #[.int .i64 ck, .slice X nx xc, .slice Y na yc, .int .i64 cc] 25)).heap.size ≤ w.heap.size + 1 := by simp
          have hwb2 : (w.alloc (.cells #[.int .i64 ck, .slice X nx xc, .slice Y na yc, .int .i64 cc] 25)).heap.size ≤ w5.heap.size := by have := Z5.out; simp; omega
          have HWB := Lib.hid hwb
          have HWB2 := Lib.hid hwb2
          have hjv : j < (vals cx a).length := by rw [vals_len]; exact hjx
          obtain ⟨g, o, rfl, e0⟩ := elI (H1.out.since stI (ka.out.trans T.out.s)) hjx
          have hin := List.all_eq_true.1 HIN.out _ (List.getElem_mem hjx)
          have hyv : (vals cx a)[j] = valAt a cx[j] := by simp [vals]
          generalize cx[j] = y at *
          obtain ⟨q, rfl, hq⟩ := isV_nat hin
          have hql : q < a.length := by have := HNL.out; omega
          obtain ⟨g2, o2, rfl, e2⟩ := elI (H3.out.since stI (ka.out.trans T.out.s)) hql
          have hva : valAt a (q : Int) = a[q] := by simp [valAt, hql]
          rw [hva] at hyv
          generalize a[q] = z at *
          have HY := Lib.hid (show z = (vals cx a)[j] from hyv.symm)
          have HJV := Lib.hid hjv
          have HL := Lib.hid (show (vals cx a).length ≤ 1000 by rw [vals_len]; have := HNX.out; omega)
          have hj1000 : j ≤ 1000 := by omega
          have HNXX := Lib.hid hnx2
          have HNDD := Lib.hid hnd
          have HNX1 := Lib.hid hnx
          have HND1 := Lib.hid hnd2
          have HNE := Lib.hid (show w5.heap.size ≠ w.heap.size + 1 by have := Z5.out; omega)
          have F0 := Lib.hid (two_new wr z (g := wr.heap.size) rfl)
          clear hlt hnx hnd hlt2 hnx2 hnd2 hin hql hva hyv hjx hwb hwb2
          go_wp2_with (first
            | (at_builtin; refine wpList_twoD (T.out.since (((Since.refl _).alloc _).alloc _)) HJV.out HL.out (wr.heap.size + 1) 1 wr.heap.size F0.out.1 (HY.out ▸ F0.out.2) (T.out.farX) (T.out.farD) (T.out.farB) (by rfl) _ _ rfl rfl rfl ?_
               intro A4 c4 w4 t4 q4
               have bm := q4 _ _ _ (HM.out.since (((Since.refl _).alloc _).alloc _)) HNDD.out
               have bd := q4 _ _ _ (HD.out.since (((Since.refl _).alloc _).alloc _)) HND1.out
               obtain ⟨f0, f1, f2, f3⟩ := bx4 bm
               obtain ⟨g0, g1, g2', g3⟩ := bx4' bm
               have T4 := Lib.hid (t4.set (i := 0) HWB.out (Or.inl rfl) (.slice A4 (j + 1) c4))
               have M4 := Lib.hid (bxset bm 0 (.slice A4 (j + 1) c4) rfl)
               have D4 := Lib.hid (bd.other HNE.out 0 (.slice A4 (j + 1) c4))
               obtain ⟨d0, d1, d2, d3⟩ := bx4 D4.out
               have F5 := Lib.hid (Bx.new (n := w4.heap.size) (W := w4.setCell ⟨w.heap.size + 1, 0, none⟩ (.slice A4 (j + 1) c4)) (cs := #[.int .i64 (j : Int)]) (t := 3) (Since.refl _) (by simp [World.setCell]))
               clear bm bd t4 q4)
            | (at_builtin; refine wpList_twoX (T4.out.since (since_alloc _ _)) hj1000 w4.heap.size 1 (F5.out.cell 0) (by rfl) _ _ rfl rfl rfl ?_
               intro A5 c5 w6' t6 q6
               have bd := q6 _ _ _ (D4.out.since (since_alloc _ _)) HNXX.out
               have bm := q6 _ _ _ (M4.out.since (since_alloc _ _)) HNX1.out
               obtain ⟨f0, f1, f2, f3⟩ := bx4 bd
               obtain ⟨g0, g1, g2', g3⟩ := bx4' bd
               have T6 := Lib.hid (t6.set (i := 1) HWB2.out (Or.inr rfl) (.slice A5 (j + 1) c5))
               have D6 := Lib.hid (bxset bd 1 (.slice A5 (j + 1) c5) rfl)
               have M6 := Lib.hid (bm.other HNE.out.symm 1 (.slice A5 (j + 1) c5))
               clear bm bd t6 q6))
          go_roundw
          case rel => exact ⟨j + 1, A5, c5, A4, c4, by go_num, by omega, T6.out, D6.out, M6.out⟩
          case measure => simp [intOf]; omega
        · obtain rfl : nx = j := by omega
          have hvt : (vals cx a).take nx = vals cx a := List.take_of_length_le (by rw [vals_len]; have := HNX.out; omega)
          have hX := T.out.slX
          have hD := T.out.slD
          rw [hvt] at hD
          have h2 := H2.out.since stI (ka.out.trans T.out.s)
          have MR := Lib.hid (show Calls Try.prog 90 #[.agg #[.slice Q nx qc, .slice none 0 0, .int .i64 0, .int .i64 0], .agg #[.int .i64 ck, .slice P nx pc, .slice Y na yc, .int .i64 cc]] wr (RetT R wr) by
            have := rcon_any (.agg #[.slice Q nx qc, .slice none 0 0, .int .i64 0, .int .i64 0]) (.agg #[.int .i64 ck, .slice P nx pc, .slice Y na yc, .int .i64 cc]) ⟨sing (vals cx a), [], 0, 0⟩ ⟨ck, iot nx, ca, cc⟩ wr ⟨_, _, rfl, hD, Sl.nil _ _ _⟩ ⟨_, _, rfl, hX, h2⟩ (by
              intro d hd
              simp only [sing, List.mem_map] at hd
              obtain ⟨n, -, rfl⟩ := hd
              simp) (by simp only [iot_len]; omega) (by have := HNA.out; show ca.length ≤ 1100000; omega) (by show (sing (vals cx a)).length ≤ 1100000; rw [sing_len, vals_len]; have := HNX.out; omega)
            have e : conOk (sing (vals cx a)) ⟨ck, iot nx, ca, cc⟩ = R := by
              have h9 := con_sing ck (vals cx a) ca cc
              rw [HWA.out, Bool.true_and, HK.out, vals_len, ← HNX.out] at h9
              exact h9
            rw [e] at this
            exact this)
          clear hX hD h2 hvt
          go_wp2_with (go_at_call 90; (with_reducible refine MR.out.mono ?_); rintro e w9 ⟨rfl, k9⟩)
          go_ret
          exact ⟨rfl, ka.out.trans (T.out.s.trans k9)⟩
section
set_option linter.unusedVariables false
open Go.Proofs.Ytakfabaocgbbmaa.Zs

theorem within_iff2 (x : Int) : within x = true ↔ -1048576 ≤ x ∧ x ≤ 1048576 := by simp only [within, mx, Bool.and_eq_true, decide_eq_true_eq]
theorem askV_all {k : Int} {v a : List Int} {c : Int} (h : askV k v a c = true) : v.all within = true ∧ shp k v.length a.length = true ∧ sgn k a c = true ∧ v.length ≤ 32 ∧ a.all within = true ∧ within c = true ∧ (decide (c = 0) || tak k) = true ∧ (bools k v).all bit = true := by
  simp only [askV, numOk, Bool.and_eq_true, decide_eq_true_eq] at h
  exact ⟨h.1.1, h.1.2.1.1.1.1.1, h.1.2.1.1.1.1.2, h.1.2.1.1.1.2, h.1.2.1.1.2, h.1.2.1.2, h.1.2.2, h.2⟩
theorem sgn_free2 {k : Int} (h : k ≠ 11) (h2 : k ≠ 19) (a : List Int) (c : Int) : sgn k a c = true := by
  have e : a.all (okE k) = true := List.all_eq_true.2 fun n _ => by simp [okE, h, h2]
  rw [sgn, e]; simp [h2]
theorem zip_take (a v : List Int) : a.zip (v.take a.length) = a.zip v := by
  induction a generalizing v with
  | nil => simp
  | cons x a ih =>
    cases v with
    | nil => simp
    | cons y v => simp [ih]
theorem asked_parts {c : Cn} {a : List Int} (h : asked c a = true) : inR c.x a = true ∧ askV c.k (vals c.x a) c.a c.c = true := by
  rw [asked, Bool.and_eq_true] at h; exact h
/-- the constraint without its flag -/
def plainC (c : Cn) : Cn := ⟨if c.k = 4 then 1 else 2, c.x.take (c.x.length - 1), c.a, c.c⟩
theorem plain_holds {c : Cn} {a : List Int} (h : asked c a = true) (hk : c.k = 4 ∨ c.k = 5 ∨ c.k = 6) :
    holds (plainC c) a = (if c.k = 4 then sm c.a (vals c.x a) == c.c else decide (sm c.a (vals c.x a) ≤ c.c)) ∧ 0 < c.x.length := by
  obtain ⟨h1, h2⟩ := asked_parts h
  obtain ⟨p1, p2, p3, p4, p5, p6, p7, p8⟩ := askV_all h2
  have hl := shp_pos p2 hk
  rw [vals_len] at hl p4
  have hv : vals (plainC c).x a = (vals c.x a).take c.a.length := by
    simp only [plainC, vals, List.map_take]
    rw [show c.x.length - 1 = c.a.length by omega]
  have hvl : (vals (plainC c).x a).length = c.a.length := by rw [hv, List.length_take, vals_len]; omega
  have hs : sm c.a (vals (plainC c).x a) = sm c.a (vals c.x a) := by rw [hv, sm, zip_take]; rfl
  have hin : inR (plainC c).x a = true := by
    rw [inR, List.all_eq_true] at *
    exact fun x hx => h1 x (List.mem_of_mem_take hx)
  have hw : (vals (plainC c).x a).all within = true := by
    rw [hv, List.all_eq_true] at *
    exact fun x hx => p1 x (List.mem_of_mem_take hx)
  refine ⟨?_, by omega⟩
  rcases Classical.em (c.k = 4) with h4 | h4
  · rw [if_pos h4]
    have hk1 : (plainC c).k = 1 := if_pos h4
    have ha : asked (plainC c) a = true := by
      rw [asked, hin, Bool.true_and, hk1, askV, hw, Bool.true_and]
      have e1 : shp 1 (vals (plainC c).x a).length (plainC c).a.length = true := decide_eq_true hvl
      rw [numOk, e1, sgn_free2 (by decide) (by decide), decide_eq_true (show (vals (plainC c).x a).length ≤ 32 by omega)]
      simp [plainC, p5, p6, tak, bools]
    rw [holds, ha, hk1, Bool.true_and]
    show (sm c.a (vals (plainC c).x a) == c.c) = _
    rw [hs]
  · rw [if_neg h4]
    have hk1 : (plainC c).k = 2 := if_neg h4
    have ha : asked (plainC c) a = true := by
      rw [asked, hin, Bool.true_and, hk1, askV, hw, Bool.true_and]
      have e1 : shp 2 (vals (plainC c).x a).length (plainC c).a.length = true := decide_eq_true hvl
      rw [numOk, e1, sgn_free2 (by decide) (by decide), decide_eq_true (show (vals (plainC c).x a).length ≤ 32 by omega)]
      simp [plainC, p5, p6, tak, bools]
    rw [holds, ha, hk1, Bool.true_and]
    show decide (sm c.a (vals (plainC c).x a) ≤ c.c) = _
    rw [hs]
theorem kin_yes {c : Cn} {a : List Int} (h : asked c a = true) (hk : c.k = 4 ∨ c.k = 5 ∨ c.k = 6) (hf : flg (vals c.x a) = true) : holds c a = holds (plainC c) a := by
  rw [(plain_holds h hk).1, holds, h, Bool.true_and]
  rcases hk with e | e | e
  · rw [e]; show (flg (vals c.x a) == _) = _; rw [hf]; simp
  · rw [e]; show (flg (vals c.x a) == _) = _; rw [hf]; simp
  · rw [e]; show (!flg (vals c.x a) || _) = _; rw [hf]; simp
theorem kin_imp {c : Cn} {a : List Int} (h : asked c a = true) (hk : c.k = 6) (hf : flg (vals c.x a) = false) : holds c a = true := by
  rw [holds, h, Bool.true_and, hk]; show (!flg (vals c.x a) || _) = _; rw [hf]; simp
theorem kin_no {c : Cn} {a : List Int} (h : asked c a = true) (hk : c.k = 4 ∨ c.k = 5) (hf : flg (vals c.x a) = false) : holds c a = !holds (plainC c) a := by
  rw [(plain_holds h (by omega)).1, holds, h, Bool.true_and]
  rcases hk with e | e
  · rw [e]; show (flg (vals c.x a) == _) = _; rw [hf]; simp
  · rw [e]; show (flg (vals c.x a) == _) = _; rw [hf]; simp
theorem flag_at_last {c : Cn} {a : List Int} {j : Nat} (hj : c.x.length = j + 1) : lastV (vals c.x a) = valAt a (c.x.getD j 0) := by
  have h : j < c.x.length := by omega
  rw [lastV, vals_len, hj, Nat.add_sub_cancel]
  simp [vals, List.getD, h]
/-- all values moved -/
def moveE (b : Int) (x : Int) : Int := if within x = true then x + b else x
def movedL (b : Int) (a : List Int) : List Int := a.map (moveE b)
theorem differ_map {v : List Int} {f : Int → Int} (hf : ∀ x y, x ∈ v → y ∈ v → f x = f y → x = y) : differ (v.map f) = differ v := by
  have key : ∀ i, i < v.length → ((v.map f).take i).contains ((v.map f).getD i 0) = (v.take i).contains (v.getD i 0) := by
    intro i hi
    have e1 : (v.map f).getD i 0 = f v[i] := by simp [List.getD, hi]
    have e2 : v.getD i 0 = v[i] := by simp [List.getD, hi]
    rw [e1, e2, ← List.map_take, Bool.eq_iff_iff, List.contains_iff_mem, List.contains_iff_mem, List.mem_map]
    constructor
    · rintro ⟨y, hy, e⟩
      have := hf y v[i] (List.mem_of_mem_take hy) (List.getElem_mem hi) e
      rw [← this]; exact hy
    · intro h
      exact ⟨v[i], h, rfl⟩
  rw [differ, differ, List.length_map, Bool.eq_iff_iff, allI_iff, allI_iff]
  constructor
  · intro h i hi
    have := h i hi
    rwa [key i hi] at this
  · intro h i hi
    rw [key i hi]
    exact h i hi
theorem ld_map (b t : Int) (l : List Tk3) : ld (l.map fun p => (p.1 + b, p.2)) (t + b) = ld l t := by
  induction l with
  | nil => rfl
  | cons p l ih =>
    rw [List.map_cons, ld, ld, ih]
    congr 1
    simp only [ldE]
    by_cases h : p.1 ≤ t ∧ t < p.1 + p.2.1
    · rw [if_pos h, if_pos (by omega)]
    · rw [if_neg h, if_neg (by omega)]
theorem zip_map1 {β : Type} (b : Int) (v : List Int) (u : List β) : (v.map (fun x => x + b)).zip u = (v.zip u).map fun p => (p.1 + b, p.2) := by
  induction v generalizing u with
  | nil => simp
  | cons x v ih =>
    cases u with
    | nil => simp
    | cons y u => simp [ih]
theorem never_move (v a : List Int) (c b : Int) : never (v.map (fun x => x + b)) a c = never v a c := by
  have e : tks (v.map (fun x => x + b)) a = (tks v a).map fun p => (p.1 + b, p.2) := by
    rw [tks, tks, List.length_map, zip_map1]
  rw [never, never, List.length_map, e, Bool.eq_iff_iff, allI_iff, allI_iff]
  have key : ∀ i, i < v.length → ld ((tks v a).map fun p => (p.1 + b, p.2)) ((v.map (fun x => x + b)).getD i 0) = ld (tks v a) (v.getD i 0) := by
    intro i hi
    have e1 : (v.map (fun x => x + b)).getD i 0 = v[i] + b := by simp [List.getD, hi]
    have e2 : v.getD i 0 = v[i] := by simp [List.getD, hi]
    rw [e1, e2, ld_map]
  constructor
  · intro h i hi
    have := h i hi
    rwa [key i hi] at this
  · intro h i hi
    rw [key i hi]
    exact h i hi
theorem moved_same {c : Cn} {a : List Int} {b : Int} (hk : c.k = 18 ∨ c.k = 19) (h : asked c a = true) (h2 : asked c (movedL b a) = true) : holds c a = holds c (movedL b a) := by
  obtain ⟨p1, p2⟩ := asked_parts h
  have hw := (askV_all p2).1
  have hv : vals c.x (movedL b a) = (vals c.x a).map (fun x => x + b) := by
    simp only [vals, List.map_map]
    refine List.map_congr_left fun x hx => ?_
    have hx1 := List.all_eq_true.1 p1 x hx
    simp only [isV, Bool.and_eq_true, decide_eq_true_eq] at hx1
    have hlt : x.toNat < a.length := by omega
    have hwx : within (valAt a x) = true := List.all_eq_true.1 hw _ (List.mem_map.2 ⟨x, hx, rfl⟩)
    have e1 : valAt a x = a[x.toNat] := by simp [valAt, hlt]
    have e2 : valAt (movedL b a) x = moveE b a[x.toNat] := by simp [valAt, movedL, hlt]
    simp only [Function.comp]
    rw [e2, e1, moveE, if_pos (e1 ▸ hwx)]
  rw [holds, holds, h, h2, Bool.true_and, Bool.true_and, hv]
  rcases hk with e | e
  · rw [e]
    show differ _ = differ _
    exact (differ_map (fun x y _ _ e => by omega)).symm
  · rw [e]
    show never _ _ _ = never _ _ _
    exact (never_move _ _ _ _).symm
end
end Go.Proofs.Ytakfabaocgbbmaa.Sn
