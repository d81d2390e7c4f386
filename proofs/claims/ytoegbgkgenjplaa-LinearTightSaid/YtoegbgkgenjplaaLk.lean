/- Layer 12 (linear): the landed notEqual. -/
import Derived.Laws.ResultCell
import Derived.Test.YtoegbgkgenjplaaLg
import Derived.Test.YtoegbgkgenjplaaEh
import Derived.Test.YtoegbgkgenjplaaEn
namespace Go.Proofs.Ytoegbgkgenjplaa.Ln
open Go.RowKit
set_option linter.unusedVariables false
set_option linter.unusedSimpArgs false
open Go.Proofs.Ytoegbgkgenjplaa.Dig Go.Proofs.Ytoegbgkgenjplaa.Lx Go.Proofs.Ytoegbgkgenjplaa.Tk Go.Proofs.Ytoegbgkgenjplaa.Ti Go.Proofs.Ytoegbgkgenjplaa.Zs Go.Proofs.Ytoegbgkgenjplaa.Tr Go.Proofs.Ytoegbgkgenjplaa.Sn
theorem RetL.yes' {R : Option Ds} {E : Ds} {b : Bool} {g n : Nat} {w0 w w' : World} (hb : b = true) (h : R = some E) (hE : DAt g n w0 w' E) (k : Og g w w') : RetL R g n w0 w (.returned (.bool b)) w' := by subst hb; exact .yes h hE k
theorem without_at {B : Option Addr} {m cB : Nat} {d : List Rn} {w : World} (hS : Sl 2 QR w (.slice B m cB) d) (hr : right d = true) (W : World) (k : Since w W) (a a' : Int) (ha : a' = a) (hf : fits a) :
    Calls Try.prog 100 #[.slice B m cB, .int .i64 a'] W (fun e w' => ∃ A2 m2 c2, e = .returned (.slice A2 m2 c2) ∧ (without d a).length = m2 ∧ NewR w w' (.slice A2 m2 c2) (without d a) ∧ Since W w') := by
  subst ha
  exact (without_new _ d a' W (hS.since stR k) (right_len hr) (okF_bd hr (Int.le_refl _)) hf).mono fun _ _ h => by
    obtain ⟨A, m, c, h1, h2, h3, h4⟩ := newR_of h
    exact ⟨A, m, c, h1, h2, ⟨h3.1, fun b hb => ⟨Nat.le_trans k.size (h3.2 b hb).1, (h3.2 b hb).2⟩⟩, h4⟩
set_option maxRecDepth 20000 in
set_option maxHeartbeats 3000000 in
theorem notEqual_any (v : Value) (c : Cn) (g n : Nat) (D : Ds) (w0 w : World) (h : ConAt w v c) (hD : DAt g n w0 w D) (hg : w0.heap.size ≤ g ∧ g < w.heap.size) (hG : Gd D) (hx : c.x.all (isV D.length) = true) (hl : c.a.length ≤ c.x.length) (ha : c.a.length ≤ 1000) (hw : c.a.all within = true) (hc : -1048576 ≤ c.c ∧ c.c ≤ 1048576) :
    Calls Try.prog 62 #[v, .slice (some ⟨g, 0, none⟩) n n] w (RetL (neL c.c (tms c.a c.x D) D) g n w0 w) := by
  obtain ⟨T, hT⟩ : ∃ T, T = tms c.a c.x D := ⟨_, rfl⟩
  have TM := Lib.hid (fun W (k : Since w W) => by have := termsOf_any v _ c D W (h.since k) (hD.sl.since stD k) hG hx hl ha; rw [← hT] at this; exact this)
  have hTB : ∀ t ∈ T, Bt t := by rw [hT]; exact tms_bt hG hx hw
  have hTV : Vs T D.length := by rw [hT]; exact (tms_in hG.rd hx).1
  have hTL : T.length ≤ 1000 := by rw [hT, tms_len hl]; exact ha
  rw [← hT]
  clear hT
  obtain ⟨vx, vy, rfl, h1, h2⟩ := h
  obtain ⟨ck, cx, ca, cc⟩ := c
  simp only at *
  obtain ⟨X, xc, rfl⟩ := h1.form
  obtain ⟨Y, yc, rfl⟩ := h2.form
  generalize cx.length = nx at *
  generalize ca.length = ny at *
  have ka := Lib.hid (since_alloc w (.cells #[.int .i64 ck, .slice X nx xc, .slice Y ny yc, .int .i64 cc] 25))
  have BC := Lib.hid (Bx.fresh w #[.int .i64 ck, .slice X nx xc, .slice Y ny yc, .int .i64 cc] 25)
  obtain ⟨F, hF⟩ : ∃ F, F = cc - fsum T := ⟨_, rfl⟩
  obtain ⟨hc1, hc2⟩ := hc
  have hfb := fsum_bd hTB
  have hF1 : -1125899906842624 ≤ F := by omega
  have hF2 : F ≤ 1125899906842624 := by omega
  obtain ⟨R, hR⟩ : ∃ R, R = neW F (T.filter opn) D := ⟨_, rfl⟩
  rw [show neL cc T D = R by rw [hR, neL, hF]]
  have HF := Lib.hid (show cc - fsum T = F from hF.symm)
  have HR := Lib.hid hR
  have HD := Lib.hid hD
  have HG := Lib.hid hg
  have HRd := Lib.hid hG.rd
  have HTV := Lib.hid hTV
  have HTB := Lib.hid hTB
  have HTL := Lib.hid hTL
  clear hF hfb hR h1 h2 hD hg hG hx hl ha hw hTV hTB hTL
  obtain ⟨b0, b1, b2, b3⟩ := bx4 BC.out
  go_enter Try.func62, Try.ntmps62
  go_wp2_with (go_at_call 93; (with_reducible refine (TM.out _ ka.out).mono ?_); rintro e w1 ⟨A, nT, cA, rfl, hnT, hNT, k1⟩; have HNT := Lib.hid hnT; have NT := Lib.hid hNT; have K1 := Lib.hid k1; clear hnT hNT k1)
  have hnT9 : nT ≤ 1000 := by rw [← HNT.out]; exact HTL.out
  go_loopw [5, 6, 16] (fun s rs i wr => ∃ (k : Nat) (O : Option Addr) (m cO : Nat) (xs : List Tm) (z : Int), i = .int .i64 (k : Int) ∧ s = .slice O m cO ∧ rs = .int .i64 z ∧ k ≤ nT ∧ m ≤ k ∧ -1048576 - 1099511627776 * (k : Int) ≤ z ∧ z ≤ 1048576 + 1099511627776 * (k : Int) ∧ Hid (xs = (T.take k).filter opn) ∧ Hid (xs.length = m) ∧ Hid (Rt w1 wr (.slice O m cO) xs) ∧ Hid (z - fsum (T.drop k) = F)) (fun _ _ i _ => nT - (intOf i).toNat)
  case atStart => exact ⟨0, none, 0, 0, [], cc, rfl, rfl, rfl, Nat.zero_le _, Nat.le_refl _, by omega, by omega, rfl, rfl, .nil (Since.refl _), HF.out⟩
  case round =>
    obtain ⟨k, O, m, cO, xs, z, rfl, rfl, rfl, hk, hm, hz1, hz2, HX, HL, HO, HE⟩ := hrel
    by_cases hkn : k < nT
    · have hkl : k < T.length := by rw [HNT.out]; exact hkn
      obtain ⟨gt, ot, rfl, e0, e1, e2, e3⟩ := elT (NT.out.1.since stT HO.out.2) hkl
      have hst := HE.out
      have hft := filter_take hkl
      have hbt := HTB.out _ (List.getElem_mem hkl)
      rw [dropT hkl, fsum] at hst
      generalize T[k] = t at *
      have FA := Lib.hid (fun W => fixed_any t W)
      have FX := Lib.hid (fun (h : t.lo = t.hi) => show (t.lo == t.hi) = true by rw [h]; exact beq_self_eq_true _)
      have FN := Lib.hid (fun (h : t.lo ≠ t.hi) => show (t.lo == t.hi) = false from beq_eq_false_iff_ne.2 h)
      have ON := Lib.hid (fun h => opn_no (t := t) h)
      have OY := Lib.hid (fun h1 h2 => opn_yes (t := t) h1 h2)
      obtain ⟨tn, tl, th, tx⟩ := t
      simp only [Bt] at hbt FA ON OY FX FN
      simp only at e0 e1 e2 e3 hst
      obtain ⟨p1, p2⟩ := prod_le hbt.1 hbt.2.1
      have HP0 := Lib.hid (fun (h : tn = 0) => show tn * tl = 0 by rw [h, Int.zero_mul])
      generalize hp : tn * tl = p at *
      have WP : IntKind.i64.wrap (tn * tl) = p := by rw [hp]; exact wrap_id' (by omega) (by omega)
      have ki := Lib.hid (since_alloc wr (.cells #[.int .i64 tn, .int .i64 tl, .int .i64 th, .int .i64 tx] 91))
      have BT := Lib.hid (Bx.fresh wr #[.int .i64 tn, .int .i64 tl, .int .i64 th, .int .i64 tx] 91)
      obtain ⟨r0, r1, r2, r3⟩ := bx4 BT.out
      have ST := Lib.hid hst
      have FT := Lib.hid hft
      have HO2 := Lib.hid (HO.out.since ki.out)
      clear hst hft hbt hkl hp
      by_cases c1 : tn = 0
      · have E1 := Lib.hid (ON.out (.inl c1))
        subst c1
        have hp0 := HP0.out rfl
        go_wp2
        go_roundw
        case rel =>
          refine ⟨k + 1, O, m, cO, xs, z, by go_num, rfl, rfl, by omega, by omega, by omega, by omega, Lib.hid ?_, HL, HO2, Lib.hid ?_⟩
          · rw [FT.out, if_neg (by rw [E1.out]; simp), List.append_nil]; exact HX.out
          · rw [← ST.out, if_neg (by rw [E1.out]; simp)]; omega
        case measure => simp [intOf]; omega
      by_cases c2 : tl = th
      · have E1 := Lib.hid (ON.out (.inr c2))
        have FA1 := FA
        rw [FX.out c2] at FA1
        subst c2
        have WZ : IntKind.i64.wrap (z - p) = z - p := wrap_id' (by omega) (by omega)
        go_wp2_with (first | (go_at_call 99; (with_reducible refine (FA1.out _).mono ?_); rintro e w2 ⟨rfl, k2, -⟩; have K2 := Lib.hid k2; obtain ⟨r0, r1, r2, r3⟩ := bx4 (BT.out.since k2); clear k2))
        go_roundw
        case rel =>
          refine ⟨k + 1, O, m, cO, xs, z - p, by go_num, rfl, by simp only [WP, WZ], by omega, by omega, by omega, by omega, Lib.hid ?_, HL, Lib.hid (HO2.out.since K2.out), Lib.hid ?_⟩
          · rw [FT.out, if_neg (by rw [E1.out]; simp), List.append_nil]; exact HX.out
          · rw [← ST.out, if_neg (by rw [E1.out]; simp)]; omega
        case measure => simp [intOf]; omega
      · have E1 := Lib.hid (OY.out c1 c2)
        have hx9 : xs.length ≤ 1000000 := by have := HL.out; omega
        have FA1 := FA
        rw [FN.out c2] at FA1
        go_wp2_with (first
          | (go_at_call 99; (with_reducible refine (FA1.out _).mono ?_); rintro e w2 ⟨rfl, k2, -⟩; have K2 := Lib.hid k2; obtain ⟨r0, r1, r2, r3⟩ := bx4 (BT.out.since k2); have BB := bx4 (Bx.fresh w2 #[.int .i64 tn, .int .i64 tl, .int .i64 th, .int .i64 tx] 91); have QQ := Lib.hid BB; clear k2 BB)
          | (at_builtin; refine wpList_appT (HO2.out.since (K2.out.trans (since_alloc _ _))) hx9 ⟨tn, tl, th, tx⟩ w2.heap.size 1 QQ.out.1 QQ.out.2.1 QQ.out.2.2.1 QQ.out.2.2.2 (by rfl) _ _ rfl rfl rfl ?_; intro A3 c3 w3 h3 q3))
        go_roundw
        case rel =>
          refine ⟨k + 1, A3, m + 1, c3, xs ++ [⟨tn, tl, th, tx⟩], z, by go_num, by rw [HL.out], rfl, by omega, by omega, by omega, by omega, Lib.hid ?_, Lib.hid (by rw [List.length_append, HL.out]; rfl), Lib.hid (by rw [HL.out] at h3; exact h3), Lib.hid ?_⟩
          · rw [FT.out, if_pos E1.out, HX.out]
          · rw [← ST.out, if_pos E1.out]; omega
        case measure => simp [intOf]; omega
    · obtain rfl : k = nT := by omega
      have E := Lib.hid (show xs = T.filter opn by rw [HX.out, List.take_of_length_le (by have := HNT.out; omega)])
      have hz : z = F := by rw [← HE.out, List.drop_of_length_le (by have := HNT.out; omega)]; simp [fsum]
      subst hz
      have EO := E.out
      rw [← EO] at HR
      match xs, HL, HO, HR with
      | [], HL, HO, HR =>
        have hm0 : m = 0 := HL.out.symm
        subst hm0
        by_cases c0 : z = 0
        · have E1 := Lib.hid (show R = none by rw [HR.out, neW, if_pos c0])
          subst c0
          go_wp2
          go_ret
          exact .no E1.out (Turn.of (ka.out.trans (K1.out.trans HO.out.2)) _)
        · have E1 := Lib.hid (show R = some D by rw [HR.out, neW, if_neg c0])
          go_wp2
          go_ret
          exact .yes' (by simp [c0]) E1.out (HD.out.since (ka.out.trans (K1.out.trans HO.out.2))) (Turn.of (ka.out.trans (K1.out.trans HO.out.2)) _)
      | t1 :: t2 :: l, HL, HO, HR =>
        have hm0 : 1 < m := by have := HL.out; simp only [List.length_cons] at this; omega
        have E1 := Lib.hid (show R = some D by rw [HR.out]; rfl)
        go_wp2
        go_ret
        exact .yes E1.out (HD.out.since (ka.out.trans (K1.out.trans HO.out.2))) (Turn.of (ka.out.trans (K1.out.trans HO.out.2)) _)
      | [t], HL, HO, HR =>
        have hm0 : m = 1 := HL.out.symm
        subst hm0
        have hmem : t ∈ T.filter opn := by rw [← EO]; simp
        have hmt := (List.mem_filter.1 hmem).1
        have hop := (List.mem_filter.1 hmem).2
        have hbt := HTB.out t hmt
        have hvs := HTV.out t hmt
        obtain ⟨gt, ot, rfl, e0, e1, e2, e3⟩ := elT HO.out.sl (i := 0) (by simp)
        obtain ⟨j, hj⟩ : ∃ j : Nat, t.x = (j : Int) := ⟨t.x.toNat, by omega⟩
        have hjl : j < D.length := by rw [hj] at hvs; simpa using hvs.2
        have hjn : j < n := by have := HD.out.len; omega
        simp only [List.getElem_cons_zero, Nat.zero_mul, Nat.add_zero] at e0 e1 e2 e3
        have hR := HR.out
        simp only [neW] at hR
        have hn0 : t.n ≠ 0 := by intro e; rw [opn_no (.inl e)] at hop; cases hop
        obtain ⟨tn, tl, th, tx⟩ := t
        simp only at hj hn0 hR e0 e1 e2 e3
        subst hj
        by_cases c1 : z.tmod tn = 0
        · have hdm : domAt D (j : Int) = D[j] := by simp [domAt, hjl]
          obtain ⟨q, hq⟩ : ∃ q, z.tdiv tn = q := ⟨_, rfl⟩
          have hqb : q.natAbs ≤ z.natAbs := by rw [← hq, Int.natAbs_tdiv]; exact Nat.div_le_self _ _
          have hq1 : -1125899906842624 ≤ q := by omega
          have hq2 : q ≤ 1125899906842624 := by omega
          have E1 := Lib.hid (show R = some (D.set j (without D[j] q)) by rw [hR, if_pos c1, hdm, hq]; rfl)
          have WE := Lib.hid (show IntKind.i64.wrap q = q from wrap_id' (by omega) (by omega))
          have KW := Lib.hid (show Since w wr from ka.out.trans (K1.out.trans HO.out.2))
          have HDW := Lib.hid (HD.out.since KW.out)
          obtain ⟨AD, cD, d0, hS⟩ := HDW.out.get hjl
          have hrd : right D[j] = true := HRd.out _ (List.getElem_mem hjl)
          have hqf : fits q := by unfold fits; omega
          have CC := Lib.hid (fun W (k : Since wr W) => show W.cell? ⟨g, j, none⟩ = some (.slice AD D[j].length cD) from (k.cell _ (World.block_lt_of_cell? _ _ d0)).trans d0)
          have C0 := Lib.hid (fun W (k : Since wr W) => show W.cell? ⟨gt, ot, none⟩ = some (.int .i64 tn) from (k.cell _ (World.block_lt_of_cell? _ _ e0)).trans e0)
          have FZ := Lib.hid (fun W (k : Since wr W) => (HDW.out.since k).no hjn)
          have PT := Lib.hid (fun W u d (k : Since wr W) (hu : NewR wr W u d) => HDW.out.put2 k hjn hu (Nat.le_trans (Nat.le_of_lt (Nat.lt_of_le_of_lt HG.out.1 HG.out.2)) KW.out.size) (Nat.lt_of_lt_of_le HG.out.2 KW.out.size))
          have CU := Lib.hid (fun W (k : Since wr W) a' (ha : a' = q) => without_at hS hrd W k q a' ha hqf)
          generalize D[j].length = dl at *
          generalize D[j] = d at *
          clear hR hop hbt hvs hmt hmem EO E hdm hqb hS hrd hqf d0 hjl HR TM
          go_wp2
          have hr0 : Since wr wr.drew := Since.drew (Since.refl wr)
          refine wp_region_noPanic ?_
          refine Reg.wp_region_G (S := fun _ => True) (fun j => [14].contains j) (by kernel_rfl) trivial ?_
          refine' Reg.tk (i := 0) (oi := { dst := some 60, op := Op.move (Operand.tmp 1), type := 30, pos := "bound.go:69", after := #[], guard := none }) (v := _) [13, 14] [14] (Or.inl ⟨by rfl, Or.inl ?hy2⟩) ?rest2
          case hy2 => (intro w' kk ss; have y0 := CC.out _ (hr0.trans kk); have y1 := C0.out _ (hr0.trans kk); go_simp; first | done | with_reducible rfl)
          try simp only [Act.put, List.setIfInBounds_toArray, List.set_cons_zero, List.set_cons_succ]
          refine' Reg.tk (i := 1) (oi := { dst := some 61, op := Op.move (Operand.tmp 9), type := 3, pos := "bound.go:69", after := #[], guard := none }) (v := _) [13, 14] [14] (Or.inl ⟨by rfl, Or.inl ?hy3⟩) ?rest3
          case hy3 => (intro w' kk ss; have y0 := CC.out _ (hr0.trans kk); have y1 := C0.out _ (hr0.trans kk); go_simp; first | done | with_reducible rfl)
          try simp only [Act.put, List.setIfInBounds_toArray, List.set_cons_zero, List.set_cons_succ]
          refine' Reg.tk (i := 2) (oi := { dst := some 62, op := Op.move (Operand.tmp 1), type := 30, pos := "bound.go:69", after := #[], guard := none }) (v := _) [4, 5, 12, 13, 14] [14] (Or.inl ⟨by rfl, Or.inl ?hy4⟩) ?rest4
          case hy4 => (intro w' kk ss; have y0 := CC.out _ (hr0.trans kk); have y1 := C0.out _ (hr0.trans kk); go_simp; first | done | with_reducible rfl)
          try simp only [Act.put, List.setIfInBounds_toArray, List.set_cons_zero, List.set_cons_succ]
          refine' Reg.tk (i := 3) (oi := { dst := some 63, op := Op.move (Operand.tmp 9), type := 3, pos := "bound.go:69", after := #[], guard := none }) (v := _) [4, 5, 12, 13, 14] [14] (Or.inl ⟨by rfl, Or.inl ?hy5⟩) ?rest5
          case hy5 => (intro w' kk ss; have y0 := CC.out _ (hr0.trans kk); have y1 := C0.out _ (hr0.trans kk); go_simp; first | done | with_reducible rfl)
          try simp only [Act.put, List.setIfInBounds_toArray, List.set_cons_zero, List.set_cons_succ]
          refine' Reg.tk (i := 4) (oi := { dst := some 64, op := Op.indexAddr 30 (Operand.tmp 62) (Operand.tmp 63), type := 0, pos := "bound.go:69", after := #[{ on := 2, ground := Ground.data }, { on := 3, ground := Ground.data }], guard := none }) (v := _) [5, 12, 13, 14] [14] (Or.inl ⟨by rfl, Or.inl ?hy6⟩) ?rest6
          case hy6 => (intro w' kk ss; have y0 := CC.out _ (hr0.trans kk); have y1 := C0.out _ (hr0.trans kk); go_simp; first | done | with_reducible rfl)
          try simp only [Act.put, List.setIfInBounds_toArray, List.set_cons_zero, List.set_cons_succ]
          refine' Reg.tk (i := 5) (oi := { dst := some 65, op := Op.load 50 (Operand.tmp 64), type := 50, pos := "bound.go:69", after := #[{ on := 4, ground := Ground.data }], guard := none }) (v := _) [12, 13, 14] [14] (Or.inl ⟨by rfl, Or.inl ?hy7⟩) ?rest7
          case hy7 => (intro w' kk ss; have y0 := CC.out _ (hr0.trans kk); have y1 := C0.out _ (hr0.trans kk); go_simp; first | done | with_reducible rfl)
          try simp only [Act.put, List.setIfInBounds_toArray, List.set_cons_zero, List.set_cons_succ]
          refine' Reg.tk (i := 6) (oi := { dst := some 66, op := Op.move (Operand.tmp 6), type := 2, pos := "bound.go:69", after := #[], guard := none }) (v := _) [11, 12, 13, 14] [14] (Or.inl ⟨by rfl, Or.inl ?hy8⟩) ?rest8
          case hy8 => (intro w' kk ss; have y0 := CC.out _ (hr0.trans kk); have y1 := C0.out _ (hr0.trans kk); go_simp; first | done | with_reducible rfl)
          try simp only [Act.put, List.setIfInBounds_toArray, List.set_cons_zero, List.set_cons_succ]
          refine' Reg.tk (i := 7) (oi := { dst := some 67, op := Op.move (Operand.tmp 5), type := 86, pos := "bound.go:69", after := #[], guard := none }) (v := _) [8, 9, 10, 11, 12, 13, 14] [14] (Or.inl ⟨by rfl, Or.inl ?hy9⟩) ?rest9
          case hy9 => (intro w' kk ss; have y0 := CC.out _ (hr0.trans kk); have y1 := C0.out _ (hr0.trans kk); go_simp; first | done | with_reducible rfl)
          try simp only [Act.put, List.setIfInBounds_toArray, List.set_cons_zero, List.set_cons_succ]
          refine' Reg.tk (i := 8) (oi := { dst := some 68, op := Op.indexAddr 86 (Operand.tmp 67) (Operand.const (Value.int IntKind.i64 0)), type := 0, pos := "bound.go:69", after := #[{ on := 7, ground := Ground.data }], guard := none }) (v := _) [9, 10, 11, 12, 13, 14] [14] (Or.inl ⟨by rfl, Or.inl ?hy10⟩) ?rest10
          case hy10 => (intro w' kk ss; have y0 := CC.out _ (hr0.trans kk); have y1 := C0.out _ (hr0.trans kk); go_simp; first | done | with_reducible rfl)
          try simp only [Act.put, List.setIfInBounds_toArray, List.set_cons_zero, List.set_cons_succ]
          refine' Reg.tk (i := 9) (oi := { dst := some 69, op := Op.fieldAddr 91 (Operand.tmp 68) 0, type := 0, pos := "bound.go:69", after := #[{ on := 8, ground := Ground.data }], guard := none }) (v := _) [10, 11, 12, 13, 14] [14] (Or.inl ⟨by rfl, Or.inl ?hy11⟩) ?rest11
          case hy11 => (intro w' kk ss; have y0 := CC.out _ (hr0.trans kk); have y1 := C0.out _ (hr0.trans kk); go_simp; first | done | with_reducible rfl)
          try simp only [Act.put, List.setIfInBounds_toArray, List.set_cons_zero, List.set_cons_succ]
          refine' Reg.tk (i := 10) (oi := { dst := some 70, op := Op.load 2 (Operand.tmp 69), type := 2, pos := "bound.go:69", after := #[{ on := 9, ground := Ground.data }], guard := none }) (v := _) [11, 12, 13, 14] [14] (Or.inl ⟨by rfl, Or.inl ?hy12⟩) ?rest12
          case hy12 => (intro w' kk ss; have y0 := CC.out _ (hr0.trans kk); have y1 := C0.out _ (hr0.trans kk); go_simp; first | done | with_reducible rfl)
          try simp only [Act.put, List.setIfInBounds_toArray, List.set_cons_zero, List.set_cons_succ]
          refine' Reg.tk (i := 11) (oi := { dst := some 71, op := Op.binOp BinOp.quo 2 (Operand.tmp 66) (Operand.tmp 70) 2, type := 2, pos := "bound.go:69", after := #[{ on := 6, ground := Ground.data }, { on := 10, ground := Ground.data }], guard := none }) (v := _) [12, 13, 14] [14] (Or.inl ⟨by rfl, Or.inl ?hy13⟩) ?rest13
          case hy13 => (intro w' kk ss; have y0 := CC.out _ (hr0.trans kk); have y1 := C0.out _ (hr0.trans kk); go_simp; first | done | with_reducible rfl)
          try simp only [Act.put, List.setIfInBounds_toArray, List.set_cons_zero, List.set_cons_succ]
          refine Reg.wpG_ready (rs := [12]) (by kernel_rfl) (by simp) (fun wq1001 k1001' sq1001 => ?_)
          have hr0 := hr0.trans k1001'
          refine Reg.AllG.first (o := { dst := some 72, op := Op.call { callee := Callee.value (Operand.func 100), args := #[Operand.tmp 65, Operand.tmp 71], argTypes := #[50, 2] }, type := 50, pos := "bound.go:69", after := #[{ on := 5, ground := Ground.data }, { on := 11, ground := Ground.data }], guard := none }) rfl (by rfl) (fun K hK => ?_) Reg.AllG.nil
          go_simp
          (with_reducible refine (CU.out wq1001 hr0 _ WE.out).mono ?_)
          rintro e y1001 ⟨A2, m2, c2, rfl, hm2, q1, hx⟩
          refine hK.out _ _ trivial hx ?_
          clear hK K
          have hr0 := hr0.trans hx
          clear hx
          try simp only [Act.put, List.setIfInBounds_toArray, List.set_cons_zero, List.set_cons_succ]
          refine' Reg.tk (i := 13) (oi := { dst := some 73, op := Op.indexAddr 30 (Operand.tmp 60) (Operand.tmp 61), type := 0, pos := "bound.go:69", after := #[{ on := 0, ground := Ground.data }, { on := 1, ground := Ground.data }, { on := 0, ground := Ground.phase }, { on := 1, ground := Ground.phase }, { on := 2, ground := Ground.phase }, { on := 3, ground := Ground.phase }, { on := 4, ground := Ground.phase }, { on := 5, ground := Ground.phase }, { on := 6, ground := Ground.phase }, { on := 7, ground := Ground.phase }, { on := 8, ground := Ground.phase }, { on := 9, ground := Ground.phase }, { on := 10, ground := Ground.phase }, { on := 11, ground := Ground.phase }, { on := 12, ground := Ground.phase }], guard := none }) (v := _) [14] [14] (Or.inl ⟨by rfl, Or.inl ?hy14⟩) ?rest14
          case hy14 => (intro w' kk ss; have y0 := CC.out _ (hr0.trans kk); have y1 := C0.out _ (hr0.trans kk); go_simp; first | done | with_reducible rfl)
          try simp only [Act.put, List.setIfInBounds_toArray, List.set_cons_zero, List.set_cons_succ]
          refine Reg.wpG_ready (rs := [14]) (by kernel_rfl) (by simp) (fun wq k1002' sq => ?_)
          have hr0 := hr0.trans k1002'
          have q1 := q1.since k1002'
          refine Reg.AllG.last (o := { dst := none, op := Op.store 50 (Operand.tmp 73) (Operand.tmp 72), type := 0, pos := "bound.go:69", after := #[{ on := 13, ground := Ground.data }, { on := 12, ground := Ground.data }, { on := 12, ground := Ground.chain }, { on := 0, ground := Ground.phase }, { on := 1, ground := Ground.phase }, { on := 2, ground := Ground.phase }, { on := 3, ground := Ground.phase }, { on := 4, ground := Ground.phase }, { on := 5, ground := Ground.phase }, { on := 6, ground := Ground.phase }, { on := 7, ground := Ground.phase }, { on := 8, ground := Ground.phase }, { on := 9, ground := Ground.phase }, { on := 10, ground := Ground.phase }, { on := 11, ground := Ground.phase }, { on := 12, ground := Ground.phase }], guard := none }) rfl (by rfl) (fun K hK => ?_) Reg.AllG.nil
          have PU := PT.out _ _ _ hr0 q1
          have z0 := CC.out _ hr0
          have zf := FZ.out _ hr0
          go_simp
          refine hK.out _ _ trivial (fun hHeld => ?_)
          clear hK K
          try simp only [Act.put, List.setIfInBounds_toArray, List.set_cons_zero, List.set_cons_succ]
          refine wpAnyH_done (by kernel_rfl) ?_ _
          refine NoPanic.normal ?_
          go_wp2
          go_ret
          exact .yes E1.out PU (Og.put (Turn.of (KW.out.trans hr0) _) j _)
        · have E1 := Lib.hid (show R = some D by rw [hR, if_neg c1])
          clear hR hop hbt hvs hmt hmem EO E
          go_wp2
          go_ret
          exact .yes E1.out (HD.out.since (ka.out.trans (K1.out.trans HO.out.2))) (Turn.of (ka.out.trans (K1.out.trans HO.out.2)) _)
section
open Go.RowKit
set_option linter.unusedVariables false
set_option linter.unusedSimpArgs false
open Go.Proofs.Ytoegbgkgenjplaa.Dig Go.Proofs.Ytoegbgkgenjplaa.Lx Go.Proofs.Ytoegbgkgenjplaa.Tk Go.Proofs.Ytoegbgkgenjplaa.Ti Go.Proofs.Ytoegbgkgenjplaa.Zs Go.Proofs.Ytoegbgkgenjplaa.Tr Go.Proofs.Ytoegbgkgenjplaa.Sn
/-- the call ends in domains of its own and 0, or in none and a number -/
def RetNr (p : Option Ds × Int) (w : World) (e : Ending) (w' : World) : Prop :=
  Since w w' ∧ match p.1 with
  | none => e = .returned (.tuple #[.slice none 0 0, .int .i64 p.2])
  | some E => ∃ g n, e = .returned (.tuple #[.slice (some ⟨g, 0, none⟩) n n, .int .i64 p.2]) ∧ w.heap.size ≤ g ∧ g < w'.heap.size ∧ DAt g n w w' E
theorem DAt.low {g n : Nat} {w0 w1 w : World} {D : Ds} (h : DAt g n w1 w D) (hs : w0.heap.size ≤ w1.heap.size) : DAt g n w0 w D := by
  obtain ⟨hl, cs, h1, h2, h3, h9⟩ := h
  refine ⟨hl, cs, h1, h2, fun i d hd => ?_, h9⟩
  obtain ⟨u, h4, h5, h6⟩ := h3 i d hd
  exact ⟨u, h4, h5, fun b hb => ⟨Nat.le_trans hs (h6 b hb).1, (h6 b hb).2⟩⟩
theorem con_veil {w W : World} {v : Value} {c : Cn} {g : Nat} (h : ConAt w v c) (k : Since w W) (hg : w.heap.size ≤ g) : ConAt (veil (but g) W) v c := by
  obtain ⟨vx, va, h1, h2, h3⟩ := h
  have hf : ∀ b, b < w.heap.size → but g b = false := fun b hb => by simp [but]; omega
  exact ConAt.since (w := veil (but g) w) ⟨vx, va, h1, Sl.veil (Q := QI) (Q' := QI) (fun _ _ h => h) h2 fun b _ hb => hf b hb, Sl.veil (Q := QI) (Q' := QI) (fun _ _ h => h) h3 fun b _ hb => hf b hb⟩ (Since.veil k _)
set_option maxRecDepth 20000 in
set_option maxHeartbeats 3000000 in
theorem narrow_any (v vd : Value) (c : Cn) (ds : Ds) (w : World) (h : ConAt w v c) (hd : Sl 1 QD w vd ds) (hs : SzM ⟨ds, [c], 0, 0⟩) :
    Calls Try.prog 27 #[v, vd] w (RetNr (narO c ds) w) := by
  have FT := Lib.hid (fun W (k : Since w W) => fit_any v vd c ds W (h.since k) (hd.since stD k) hs)
  cases hm : modOk ⟨ds, [c], 0, 0⟩ with
  | false =>
    rw [hm] at FT
    rw [narO_no hm]
    clear hm
    obtain ⟨vx, vy, rfl, h1, h2⟩ := h
    obtain ⟨ck, cx, ca, cc⟩ := c
    simp only at *
    obtain ⟨X, xc, rfl⟩ := h1.form
    obtain ⟨Y, yc, rfl⟩ := h2.form
    obtain ⟨D, dc, rfl⟩ := hd.form
    generalize hnx : cx.length = nx at *
    generalize hny : ca.length = ny at *
    generalize hnd : List.length ds = nd at *
    have ka := Lib.hid (since_alloc w (.cells #[.int .i64 ck, .slice X nx xc, .slice Y ny yc, .int .i64 cc] 25))
    have BC := Lib.hid (Bx.fresh w #[.int .i64 ck, .slice X nx xc, .slice Y ny yc, .int .i64 cc] 25)
    clear h1 h2 hd hs hnx hny hnd
    obtain ⟨b0, b1, b2, b3⟩ := bx4 BC.out
    go_enter Try.func27, Try.ntmps27
    go_wp2_with (go_at_call 59; (with_reducible refine (FT.out _ ka.out).mono ?_); rintro e w1 ⟨rfl, k1, -⟩; have K1 := Lib.hid (ka.out.trans k1); have L1 := Lib.hid k1; obtain ⟨b0, b1, b2, b3⟩ := bx4 (BC.out.since k1); clear k1)
    go_ret2
    exact ⟨K1.out, rfl⟩
  | true =>
  obtain ⟨m1, m2, m3⟩ := mod_parts hm
  rw [hm] at FT
  by_cases hk : 1 ≤ c.k ∧ c.k ≤ 3
  case neg =>
    rw [narO_know hm hk]
    clear hm m1 m2 m3
    obtain ⟨vx, vy, rfl, h1, h2⟩ := h
    obtain ⟨ck, cx, ca, cc⟩ := c
    simp only at *
    obtain ⟨X, xc, rfl⟩ := h1.form
    obtain ⟨Y, yc, rfl⟩ := h2.form
    obtain ⟨D, dc, rfl⟩ := hd.form
    generalize hnx : cx.length = nx at *
    generalize hny : ca.length = ny at *
    generalize hnd : List.length ds = nd at *
    have ka := Lib.hid (since_alloc w (.cells #[.int .i64 ck, .slice X nx xc, .slice Y ny yc, .int .i64 cc] 25))
    have BC := Lib.hid (Bx.fresh w #[.int .i64 ck, .slice X nx xc, .slice Y ny yc, .int .i64 cc] 25)
    clear h1 h2 hd hs hnx hny hnd
    obtain ⟨b0, b1, b2, b3⟩ := bx4 BC.out
    have hk1 : ck ≠ 1 := by omega
    have hk2 : ck ≠ 2 := by omega
    have hk3 : ck ≠ 3 := by omega
    clear hk
    go_enter Try.func27, Try.ntmps27
    go_wp2_with (go_at_call 59; (with_reducible refine (FT.out _ ka.out).mono ?_); rintro e w1 ⟨rfl, k1, -⟩; have K1 := Lib.hid (ka.out.trans k1); have L1 := Lib.hid k1; obtain ⟨b0, b1, b2, b3⟩ := bx4 (BC.out.since k1); clear k1)
    go_ret2
    exact ⟨K1.out, rfl⟩
  have CO := Lib.hid (fun W (k : Since w W) => copied_any vd ds W (hd.since stD k) (by omega) (fun d hd => right_len (m1 d hd).1))
  obtain ⟨p1, p2, p3, p4, p5, p6⟩ := lin_parts m3 (by omega)
  have CE := Lib.hid (fun g n w1 W (k : Since w W) (hD : DAt g n w1 W ds) (hg : w.heap.size ≤ g ∧ w1.heap.size ≤ g ∧ g < W.heap.size) => show Calls Try.prog 60 #[v, .slice (some ⟨g, 0, none⟩) n n] W (RetL (narL 1 c.c c.a c.x ds) g n w1 W) from equal_any v c g n ds w1 W (con_veil h k hg.1) hD hg.2 m1 p1 p2 p3 p4 p5)
  have CA := Lib.hid (fun g n w1 W (k : Since w W) (hD : DAt g n w1 W ds) (hg : w.heap.size ≤ g ∧ w1.heap.size ≤ g ∧ g < W.heap.size) => show Calls Try.prog 61 #[v, .slice (some ⟨g, 0, none⟩) n n] W (RetL (narL 2 c.c c.a c.x ds) g n w1 W) from atMost_any v c g n ds w1 W (h.since k) hD hg.2 m1 p1 p2 p3 p4 p5)
  have CN := Lib.hid (fun g n w1 W (k : Since w W) (hD : DAt g n w1 W ds) (hg : w.heap.size ≤ g ∧ w1.heap.size ≤ g ∧ g < W.heap.size) => show Calls Try.prog 62 #[v, .slice (some ⟨g, 0, none⟩) n n] W (RetL (narL 3 c.c c.a c.x ds) g n w1 W) from notEqual_any v c g n ds w1 W (h.since k) hD hg.2 m1 p1 p2 p3 p4 p5)
  clear m1 m2 m3 p1 p2 p3 p4 p5 p6
  obtain ⟨vx, vy, rfl, h1, h2⟩ := h
  obtain ⟨ck, cx, ca, cc⟩ := c
  simp only at *
  obtain ⟨X, xc, rfl⟩ := h1.form
  obtain ⟨Y, yc, rfl⟩ := h2.form
  obtain ⟨D, dc, rfl⟩ := hd.form
  generalize hnx : cx.length = nx at *
  generalize hny : ca.length = ny at *
  generalize hnd : List.length ds = nd at *
  have ka := Lib.hid (since_alloc w (.cells #[.int .i64 ck, .slice X nx xc, .slice Y ny yc, .int .i64 cc] 25))
  have BC := Lib.hid (Bx.fresh w #[.int .i64 ck, .slice X nx xc, .slice Y ny yc, .int .i64 cc] 25)
  clear h1 h2 hd hs hnx hny hnd
  obtain ⟨b0, b1, b2, b3⟩ := bx4 BC.out
  have hk3 : ck = 1 ∨ ck = 2 ∨ ck = 3 := by omega
  clear hk
  rcases hk3 with rfl | rfl | rfl
  · clear CA CN
    have EN := fun {R} hR => narO_is (c := ⟨1, cx, ca, cc⟩) hm (by simp only; decide) (R := R) hR
    cases hR : narL 1 cc ca cx ds with
    | none =>
      have E := Lib.hid (EN hR)
      rw [hR] at CE
      rw [E.out]
      clear hR E EN hm
      go_enter Try.func27, Try.ntmps27
      go_wp2_with (first | (go_at_call 59; (with_reducible refine (FT.out _ ka.out).mono ?_); rintro e w1 ⟨rfl, k1, -⟩; have K1 := Lib.hid (ka.out.trans k1); have L1 := Lib.hid k1; obtain ⟨b0, b1, b2, b3⟩ := bx4 (BC.out.since k1); clear k1) | (go_at_call 63; (with_reducible refine (CO.out _ K1.out).mono ?_); rintro e w2 ⟨g, n2, rfl, hn2, hg1, hg2, hD2, k2⟩; have L2 := Lib.hid (L1.out.trans k2); have K2 := Lib.hid (K1.out.trans k2); have HN2 := Lib.hid hn2; have HG := Lib.hid (show w.heap.size ≤ g ∧ w1.heap.size ≤ g ∧ g < w2.heap.size from ⟨Nat.le_trans K1.out.size hg1, hg1, hg2⟩); have HD2 := Lib.hid hD2; obtain ⟨b0, b1, b2, b3⟩ := bx4 (BC.out.since L2.out); clear k2 hn2 hg1 hg2 hD2) | (go_at_call 60; (with_reducible refine (CE.out g n2 w1 w2 K2.out HD2.out HG.out).mono ?_); rintro e w3 ⟨rfl, q3, q4⟩; have Q3 := Lib.hid q3; have Q4 := Lib.hid q4; clear q3 q4; simp only [Option.isSome]))
      go_ret2
      exact ⟨Og.all K2.out Q4.out HG.out.1, rfl⟩
    | some E =>
      have EE := Lib.hid (EN hR)
      rw [hR] at CE
      rw [EE.out]
      clear hR EE EN hm
      go_enter Try.func27, Try.ntmps27
      go_wp2_with (first | (go_at_call 59; (with_reducible refine (FT.out _ ka.out).mono ?_); rintro e w1 ⟨rfl, k1, -⟩; have K1 := Lib.hid (ka.out.trans k1); have L1 := Lib.hid k1; obtain ⟨b0, b1, b2, b3⟩ := bx4 (BC.out.since k1); clear k1) | (go_at_call 63; (with_reducible refine (CO.out _ K1.out).mono ?_); rintro e w2 ⟨g, n2, rfl, hn2, hg1, hg2, hD2, k2⟩; have L2 := Lib.hid (L1.out.trans k2); have K2 := Lib.hid (K1.out.trans k2); have HN2 := Lib.hid hn2; have HG := Lib.hid (show w.heap.size ≤ g ∧ w1.heap.size ≤ g ∧ g < w2.heap.size from ⟨Nat.le_trans K1.out.size hg1, hg1, hg2⟩); have HD2 := Lib.hid hD2; obtain ⟨b0, b1, b2, b3⟩ := bx4 (BC.out.since L2.out); clear k2 hn2 hg1 hg2 hD2) | (go_at_call 60; (with_reducible refine (CE.out g n2 w1 w2 K2.out HD2.out HG.out).mono ?_); rintro e w3 ⟨rfl, q3, q4⟩; have Q3 := Lib.hid q3; have Q4 := Lib.hid q4; clear q3 q4; simp only [Option.isSome]))
      go_ret2
      exact ⟨Og.all K2.out Q4.out HG.out.1, g, n2, rfl, HG.out.1, Nat.lt_of_lt_of_le HG.out.2.2 Q4.out.size, (Q3.out E rfl).low K1.out.size⟩
  · clear CE CN
    have EN := fun {R} hR => narO_is (c := ⟨2, cx, ca, cc⟩) hm (by simp only; decide) (R := R) hR
    cases hR : narL 2 cc ca cx ds with
    | none =>
      have E := Lib.hid (EN hR)
      rw [hR] at CA
      rw [E.out]
      clear hR E EN hm
      go_enter Try.func27, Try.ntmps27
      go_wp2_with (first | (go_at_call 59; (with_reducible refine (FT.out _ ka.out).mono ?_); rintro e w1 ⟨rfl, k1, -⟩; have K1 := Lib.hid (ka.out.trans k1); have L1 := Lib.hid k1; obtain ⟨b0, b1, b2, b3⟩ := bx4 (BC.out.since k1); clear k1) | (go_at_call 63; (with_reducible refine (CO.out _ K1.out).mono ?_); rintro e w2 ⟨g, n2, rfl, hn2, hg1, hg2, hD2, k2⟩; have L2 := Lib.hid (L1.out.trans k2); have K2 := Lib.hid (K1.out.trans k2); have HN2 := Lib.hid hn2; have HG := Lib.hid (show w.heap.size ≤ g ∧ w1.heap.size ≤ g ∧ g < w2.heap.size from ⟨Nat.le_trans K1.out.size hg1, hg1, hg2⟩); have HD2 := Lib.hid hD2; obtain ⟨b0, b1, b2, b3⟩ := bx4 (BC.out.since L2.out); clear k2 hn2 hg1 hg2 hD2) | (go_at_call 61; (with_reducible refine (CA.out g n2 w1 w2 K2.out HD2.out HG.out).mono ?_); rintro e w3 ⟨rfl, q3, q4⟩; have Q3 := Lib.hid q3; have Q4 := Lib.hid q4; clear q3 q4; simp only [Option.isSome]))
      go_ret2
      exact ⟨Og.all K2.out Q4.out HG.out.1, rfl⟩
    | some E =>
      have EE := Lib.hid (EN hR)
      rw [hR] at CA
      rw [EE.out]
      clear hR EE EN hm
      go_enter Try.func27, Try.ntmps27
      go_wp2_with (first | (go_at_call 59; (with_reducible refine (FT.out _ ka.out).mono ?_); rintro e w1 ⟨rfl, k1, -⟩; have K1 := Lib.hid (ka.out.trans k1); have L1 := Lib.hid k1; obtain ⟨b0, b1, b2, b3⟩ := bx4 (BC.out.since k1); clear k1) | (go_at_call 63; (with_reducible refine (CO.out _ K1.out).mono ?_); rintro e w2 ⟨g, n2, rfl, hn2, hg1, hg2, hD2, k2⟩; have L2 := Lib.hid (L1.out.trans k2); have K2 := Lib.hid (K1.out.trans k2); have HN2 := Lib.hid hn2; have HG := Lib.hid (show w.heap.size ≤ g ∧ w1.heap.size ≤ g ∧ g < w2.heap.size from ⟨Nat.le_trans K1.out.size hg1, hg1, hg2⟩); have HD2 := Lib.hid hD2; obtain ⟨b0, b1, b2, b3⟩ := bx4 (BC.out.since L2.out); clear k2 hn2 hg1 hg2 hD2) | (go_at_call 61; (with_reducible refine (CA.out g n2 w1 w2 K2.out HD2.out HG.out).mono ?_); rintro e w3 ⟨rfl, q3, q4⟩; have Q3 := Lib.hid q3; have Q4 := Lib.hid q4; clear q3 q4; simp only [Option.isSome]))
      go_ret2
      exact ⟨Og.all K2.out Q4.out HG.out.1, g, n2, rfl, HG.out.1, Nat.lt_of_lt_of_le HG.out.2.2 Q4.out.size, (Q3.out E rfl).low K1.out.size⟩
  · clear CE CA
    have EN := fun {R} hR => narO_is (c := ⟨3, cx, ca, cc⟩) hm (by simp only; decide) (R := R) hR
    cases hR : narL 3 cc ca cx ds with
    | none =>
      have E := Lib.hid (EN hR)
      rw [hR] at CN
      rw [E.out]
      clear hR E EN hm
      go_enter Try.func27, Try.ntmps27
      go_wp2_with (first | (go_at_call 59; (with_reducible refine (FT.out _ ka.out).mono ?_); rintro e w1 ⟨rfl, k1, -⟩; have K1 := Lib.hid (ka.out.trans k1); have L1 := Lib.hid k1; obtain ⟨b0, b1, b2, b3⟩ := bx4 (BC.out.since k1); clear k1) | (go_at_call 63; (with_reducible refine (CO.out _ K1.out).mono ?_); rintro e w2 ⟨g, n2, rfl, hn2, hg1, hg2, hD2, k2⟩; have L2 := Lib.hid (L1.out.trans k2); have K2 := Lib.hid (K1.out.trans k2); have HN2 := Lib.hid hn2; have HG := Lib.hid (show w.heap.size ≤ g ∧ w1.heap.size ≤ g ∧ g < w2.heap.size from ⟨Nat.le_trans K1.out.size hg1, hg1, hg2⟩); have HD2 := Lib.hid hD2; obtain ⟨b0, b1, b2, b3⟩ := bx4 (BC.out.since L2.out); clear k2 hn2 hg1 hg2 hD2) | (go_at_call 62; (with_reducible refine (CN.out g n2 w1 w2 K2.out HD2.out HG.out).mono ?_); rintro e w3 ⟨rfl, q3, q4⟩; have Q3 := Lib.hid q3; have Q4 := Lib.hid q4; clear q3 q4; simp only [Option.isSome]))
      go_ret2
      exact ⟨Og.all K2.out Q4.out HG.out.1, rfl⟩
    | some E =>
      have EE := Lib.hid (EN hR)
      rw [hR] at CN
      rw [EE.out]
      clear hR EE EN hm
      go_enter Try.func27, Try.ntmps27
      go_wp2_with (first | (go_at_call 59; (with_reducible refine (FT.out _ ka.out).mono ?_); rintro e w1 ⟨rfl, k1, -⟩; have K1 := Lib.hid (ka.out.trans k1); have L1 := Lib.hid k1; obtain ⟨b0, b1, b2, b3⟩ := bx4 (BC.out.since k1); clear k1) | (go_at_call 63; (with_reducible refine (CO.out _ K1.out).mono ?_); rintro e w2 ⟨g, n2, rfl, hn2, hg1, hg2, hD2, k2⟩; have L2 := Lib.hid (L1.out.trans k2); have K2 := Lib.hid (K1.out.trans k2); have HN2 := Lib.hid hn2; have HG := Lib.hid (show w.heap.size ≤ g ∧ w1.heap.size ≤ g ∧ g < w2.heap.size from ⟨Nat.le_trans K1.out.size hg1, hg1, hg2⟩); have HD2 := Lib.hid hD2; obtain ⟨b0, b1, b2, b3⟩ := bx4 (BC.out.since L2.out); clear k2 hn2 hg1 hg2 hD2) | (go_at_call 62; (with_reducible refine (CN.out g n2 w1 w2 K2.out HD2.out HG.out).mono ?_); rintro e w3 ⟨rfl, q3, q4⟩; have Q3 := Lib.hid q3; have Q4 := Lib.hid q4; clear q3 q4; simp only [Option.isSome]))
      go_ret2
      exact ⟨Og.all K2.out Q4.out HG.out.1, g, n2, rfl, HG.out.1, Nat.lt_of_lt_of_le HG.out.2.2 Q4.out.size, (Q3.out E rfl).low K1.out.size⟩
end
section
open Go.RowKit
set_option linter.unusedVariables false
set_option linter.unusedSimpArgs false
open Go.Proofs.Ytoegbgkgenjplaa.Dig Go.Proofs.Ytoegbgkgenjplaa.Lx Go.Proofs.Ytoegbgkgenjplaa.Tk Go.Proofs.Ytoegbgkgenjplaa.Ti Go.Proofs.Ytoegbgkgenjplaa.Zs Go.Proofs.Ytoegbgkgenjplaa.Tr Go.Proofs.Ytoegbgkgenjplaa.Sn
/-- the call ends in two numbers, or in none -/
def RetE2 (r : Option (Int × Int)) (w : World) (e : Ending) (w' : World) : Prop := e = .returned (.tuple #[.agg #[.int .i64 (r.getD (0, 0)).1, .int .i64 (r.getD (0, 0)).2], .bool r.isSome]) ∧ Since w w'
set_option maxRecDepth 20000 in
set_option maxHeartbeats 3000000 in
theorem ends_any2 (v vd : Value) (c : Cn) (ds : Ds) (w : World) (h : ConAt w v c) (hd : Sl 1 QD w vd ds) (hs : SzM ⟨ds, [c], 0, 0⟩) :
    Calls Try.prog 56 #[v, vd] w (RetE2 (endO c ds) w) := by
  have FT := Lib.hid (fun W (k : Since w W) => fit_any v vd c ds W (h.since k) (hd.since stD k) hs)
  by_cases hk : 1 ≤ c.k ∧ c.k ≤ 6
  case neg =>
    rw [show endO c ds = none by rw [endO, if_neg (fun h => hk h.2)]]
    by_cases hk1 : c.k < 1
    all_goals
      obtain ⟨vx, vy, rfl, h1, h2⟩ := h
      obtain ⟨ck, cx, ca, cc⟩ := c
      simp only at *
      obtain ⟨X, xc, rfl⟩ := h1.form
      obtain ⟨Y, yc, rfl⟩ := h2.form
      obtain ⟨D, dc, rfl⟩ := hd.form
      generalize hnx : cx.length = nx at *
      generalize hny : ca.length = ny at *
      generalize hnd : List.length ds = nd at *
      have ka := Lib.hid (since_alloc w (.cells #[.int .i64 ck, .slice X nx xc, .slice Y ny yc, .int .i64 cc] 25))
      have BC := Lib.hid (Bx.fresh w #[.int .i64 ck, .slice X nx xc, .slice Y ny yc, .int .i64 cc] 25)
      clear h1 h2 hd hs hnx hny hnd
      obtain ⟨b0, b1, b2, b3⟩ := bx4 BC.out
      have kz := Lib.hid (since_alloc (w.alloc (.cells #[.int .i64 ck, .slice X nx xc, .slice Y ny yc, .int .i64 cc] 25)) (.cells #[.int .i64 0, .int .i64 0] 49))
      have kw := Lib.hid (ka.out.trans kz.out)
      have BC2 := Lib.hid (BC.out.since kz.out)
      have BZ := Lib.hid (show Bx ((w.alloc (.cells #[.int .i64 ck, .slice X nx xc, .slice Y ny yc, .int .i64 cc] 25)).alloc (.cells #[.int .i64 0, .int .i64 0] 49)) (w.heap.size + 1) #[.int .i64 0, .int .i64 0] 49 from Bx.new (Since.refl _) (by simp))
      obtain ⟨b0', b1', b2', b3'⟩ := bx4 BC2.out
      obtain ⟨f0, f1⟩ := BZ.out.two
      try have hk6 : 6 < ck := by omega
      go_enter Try.func56, Try.ntmps56
      go_wp2
      refine bodyPost_ret (v := .tuple #[.agg #[.int .i64 0, .int .i64 0], .bool false]) ?_ rfl ⟨rfl, kw.out⟩
      rw [results_cell_tmp rfl]
      go_simp
  cases hm : modOk ⟨ds, [c], 0, 0⟩ with
  | false =>
    rw [hm] at FT
    rw [show endO c ds = none by rw [endO, if_neg (fun h => by rw [hm] at h; cases h.1)]]
    clear hm
    obtain ⟨vx, vy, rfl, h1, h2⟩ := h
    obtain ⟨ck, cx, ca, cc⟩ := c
    simp only at *
    obtain ⟨X, xc, rfl⟩ := h1.form
    obtain ⟨Y, yc, rfl⟩ := h2.form
    obtain ⟨D, dc, rfl⟩ := hd.form
    generalize hnx : cx.length = nx at *
    generalize hny : ca.length = ny at *
    generalize hnd : List.length ds = nd at *
    have ka := Lib.hid (since_alloc w (.cells #[.int .i64 ck, .slice X nx xc, .slice Y ny yc, .int .i64 cc] 25))
    have BC := Lib.hid (Bx.fresh w #[.int .i64 ck, .slice X nx xc, .slice Y ny yc, .int .i64 cc] 25)
    clear h1 h2 hd hs hnx hny hnd
    obtain ⟨b0, b1, b2, b3⟩ := bx4 BC.out
    have kz := Lib.hid (since_alloc (w.alloc (.cells #[.int .i64 ck, .slice X nx xc, .slice Y ny yc, .int .i64 cc] 25)) (.cells #[.int .i64 0, .int .i64 0] 49))
    have kw := Lib.hid (ka.out.trans kz.out)
    have BC2 := Lib.hid (BC.out.since kz.out)
    have BZ := Lib.hid (show Bx ((w.alloc (.cells #[.int .i64 ck, .slice X nx xc, .slice Y ny yc, .int .i64 cc] 25)).alloc (.cells #[.int .i64 0, .int .i64 0] 49)) (w.heap.size + 1) #[.int .i64 0, .int .i64 0] 49 from Bx.new (Since.refl _) (by simp))
    obtain ⟨b0', b1', b2', b3'⟩ := bx4 BC2.out
    have hk1 : ¬ ck < 1 := by omega
    have hk6 : ¬ ck > 6 := by omega
    clear hk
    go_enter Try.func56, Try.ntmps56
    go_wp2_with (go_at_call 59; (with_reducible refine (FT.out _ kw.out).mono ?_); rintro e w1 ⟨rfl, k1, -⟩; have K1 := Lib.hid (kw.out.trans k1); have L1 := Lib.hid k1; obtain ⟨b0, b1, b2, b3⟩ := bx4 (BC2.out.since k1); obtain ⟨f0, f1⟩ := (BZ.out.since k1).two; obtain ⟨g0, g1⟩ := (BZ.out.since k1).two'; have PB := ((BZ.out.since k1).put2 (.int .i64 0) (.int .i64 0)).two; unfold put2 at PB; obtain ⟨p0, p1⟩ := PB; clear k1)
    refine bodyPost_ret (v := .tuple #[.agg #[.int .i64 0, .int .i64 0], .bool false]) ?_ rfl ⟨rfl, since_put2 (b := w.heap.size + 1) K1.out (by simp) _ _⟩
    rw [results_cell_tmp rfl]
    go_simp
  | true =>
  obtain ⟨m1, m2, m3⟩ := mod_parts hm
  rw [hm] at FT
  obtain ⟨p1, p2, p3, p4, p5, p6⟩ := lin_parts m3 hk
  rw [show endO c ds = some (lsum (tms c.a c.x ds), gsum (tms c.a c.x ds)) by rw [endO, if_pos ⟨hm, hk⟩]]
  have hTB := tms_bt m1 p1 p4
  have hTL : (tms c.a c.x ds).length ≤ 1000 := by rw [tms_len p2]; exact p3
  have TM := Lib.hid (fun W (k : Since w W) => termsOf_any v vd c ds W (h.since k) (hd.since stD k) m1 p1 p2 p3)
  generalize tms c.a c.x ds = T at *
  have LE := Lib.hid (fun A m cA W (h : Sl 4 QT W (.slice A m cA) T) => least_any _ T W h hTL hTB)
  have GE := Lib.hid (fun A m cA W (h : Sl 4 QT W (.slice A m cA) T) => greatest_any _ T W h hTL hTB)
  generalize lsum T = S at *
  generalize gsum T = S2 at *
  clear m1 m2 m3 p1 p2 p3 p4 p5 p6 hTB hTL hm
  obtain ⟨vx, vy, rfl, h1, h2⟩ := h
  obtain ⟨ck, cx, ca, cc⟩ := c
  simp only at *
  obtain ⟨X, xc, rfl⟩ := h1.form
  obtain ⟨Y, yc, rfl⟩ := h2.form
  obtain ⟨D, dc, rfl⟩ := hd.form
  generalize hnx : cx.length = nx at *
  generalize hny : ca.length = ny at *
  generalize hnd : List.length ds = nd at *
  have ka := Lib.hid (since_alloc w (.cells #[.int .i64 ck, .slice X nx xc, .slice Y ny yc, .int .i64 cc] 25))
  have BC := Lib.hid (Bx.fresh w #[.int .i64 ck, .slice X nx xc, .slice Y ny yc, .int .i64 cc] 25)
  clear h1 h2 hd hs hnx hny hnd
  obtain ⟨b0, b1, b2, b3⟩ := bx4 BC.out
  have kz := Lib.hid (since_alloc (w.alloc (.cells #[.int .i64 ck, .slice X nx xc, .slice Y ny yc, .int .i64 cc] 25)) (.cells #[.int .i64 0, .int .i64 0] 49))
  have kw := Lib.hid (ka.out.trans kz.out)
  have BC2 := Lib.hid (BC.out.since kz.out)
  have BZ := Lib.hid (show Bx ((w.alloc (.cells #[.int .i64 ck, .slice X nx xc, .slice Y ny yc, .int .i64 cc] 25)).alloc (.cells #[.int .i64 0, .int .i64 0] 49)) (w.heap.size + 1) #[.int .i64 0, .int .i64 0] 49 from Bx.new (Since.refl _) (by simp))
  obtain ⟨b0', b1', b2', b3'⟩ := bx4 BC2.out
  have hk1 : ¬ ck < 1 := by omega
  have hk6 : ¬ ck > 6 := by omega
  clear hk
  go_enter Try.func56, Try.ntmps56
  go_wp2_with (first
    | (go_at_call 59; (with_reducible refine (FT.out _ kw.out).mono ?_); rintro e w1 ⟨rfl, k1, -⟩; have K1 := Lib.hid (kw.out.trans k1); have L1 := Lib.hid k1; obtain ⟨b0, b1, b2, b3⟩ := bx4 (BC2.out.since k1); obtain ⟨f0, f1⟩ := (BZ.out.since k1).two; obtain ⟨g0, g1⟩ := (BZ.out.since k1).two'; have PB := ((BZ.out.since k1).put2 (.int .i64 0) (.int .i64 0)).two; unfold put2 at PB; obtain ⟨p0, p1⟩ := PB; clear k1)
    | (go_at_call 93; (with_reducible refine (TM.out _ K1.out).mono ?_); rintro e w2 ⟨A, nT, cA, rfl, -, hNT, k2⟩; have T2 := Lib.hid hNT.1; have K2 := Lib.hid (K1.out.trans k2); have L2 := Lib.hid (L1.out.trans k2); clear hNT k2)
    | (go_at_call 94; (with_reducible refine (LE.out A nT cA _ T2.out).mono ?_); rintro e w3 ⟨rfl, k3, -⟩; have T3 := Lib.hid (T2.out.since stT k3); have K3 := Lib.hid (K2.out.trans k3); have L3 := Lib.hid (L2.out.trans k3); clear k3)
    | (go_at_call 95; (with_reducible refine (GE.out A nT cA _ T3.out).mono ?_); rintro e w4 ⟨rfl, k4, -⟩; have K4 := Lib.hid (K3.out.trans k4); obtain ⟨f0, f1⟩ := (BZ.out.since (L3.out.trans k4)).two; obtain ⟨g0, g1⟩ := (BZ.out.since (L3.out.trans k4)).two'; have PB := ((BZ.out.since (L3.out.trans k4)).put2 (.int .i64 S) (.int .i64 S2)).two; unfold put2 at PB; obtain ⟨p0, p1⟩ := PB; clear k4))
  refine bodyPost_ret (v := .tuple #[.agg #[.int .i64 S, .int .i64 S2], .bool true]) ?_ rfl ⟨rfl, since_put2 (b := w.heap.size + 1) K4.out (by simp) _ _⟩
  rw [results_cell_tmp rfl]
  go_simp
end
section
open Go.RowKit
set_option linter.unusedVariables false
set_option linter.unusedSimpArgs false
open Go.Proofs.Ytoegbgkgenjplaa.Dig Go.Proofs.Ytoegbgkgenjplaa.Lx Go.Proofs.Ytoegbgkgenjplaa.Tk Go.Proofs.Ytoegbgkgenjplaa.Ti Go.Proofs.Ytoegbgkgenjplaa.Zs Go.Proofs.Ytoegbgkgenjplaa.Tr Go.Proofs.Ytoegbgkgenjplaa.Sn
def aD : Ds := [[(0, 5)], [(0, 5)]]
def aC : Cn := ⟨1, [0, 1], [1, 1], 9⟩
def aC2 : Cn := ⟨2, [0], [1], -1⟩
theorem aN1 : narO aC aD = (some [[(4, 5)], [(4, 5)]], 0) := by decide +kernel
theorem aN2 : narO aC2 aD = (none, 12) := by decide +kernel
theorem aE : endO aC aD = some (0, 10) := by decide +kernel
theorem szA {c : Cn} (h : c = aC ∨ c = aC2) : SzM ⟨aD, [c], 0, 0⟩ := by
  refine ⟨fun d hd => ?_, fun c' hc => ?_⟩
  · simp [aD] at hd; subst hd; simp
  · simp at hc; subst hc; rcases h with rfl | rfl <;> simp [aC, aC2, SzC]
theorem ranges_same {v1 v2 : Value} {l : List Rn} {w : World} (h1 : Sl 2 QR w v1 l) (h2 : Sl 2 QR w v2 l) (hl : l.length ≤ 1100000) : Calls Try.prog 38 #[v1, v2] w (RetT true w) := by
  have := ranges_any v1 v2 l l w h1 h2 hl
  rw [decide_eq_true rfl] at this
  exact this
set_option maxRecDepth 20000 in
set_option maxHeartbeats 4000000 in
theorem alive_any (w : World) : Calls Try.prog 23 #[] w (RetT true w) := by
  obtain ⟨w6, hw6⟩ : ∃ w6, w6 = ((((((w.alloc (.cells #[.int .i64 0, .int .i64 5] 49)).alloc (.cells #[.int .i64 0, .int .i64 5] 49)).alloc (.cells #[.slice (some ⟨w.heap.size, 0, none⟩) 1 1, .slice (some ⟨w.heap.size + 1, 0, none⟩) 1 1] 50)).alloc (.cells #[.int .i64 0, .int .i64 1] 3)).alloc (.cells #[.int .i64 1, .int .i64 1] 2)).alloc (.cells #[.int .i64 1, .slice (some ⟨w.heap.size + 1 + 1 + 1, 0, none⟩) 2 2, .slice (some ⟨w.heap.size + 1 + 1 + 1 + 1, 0, none⟩) 2 2, .int .i64 9] 25)) := ⟨_, rfl⟩
  have S6 := Lib.hid (show Since w w6 by rw [hw6]; exact ((((((((Since.refl _).alloc _).alloc _).alloc _).alloc _).alloc _).alloc _)))
  have R1 := Lib.hid (show Sl 2 QR w6 (.slice (some ⟨w.heap.size, 0, none⟩) 1 1) [(0, 5)] by rw [hw6]; exact sl_dom1 (Bx.new (W := w) (((((((Since.refl _).alloc _).alloc _).alloc _).alloc _).alloc _)) rfl))
  have R2 := Lib.hid (show Sl 2 QR w6 (.slice (some ⟨w.heap.size + 1, 0, none⟩) 1 1) [(0, 5)] by rw [hw6]; exact sl_dom1 (Bx.new (W := (w.alloc (.cells #[.int .i64 0, .int .i64 5] 49))) ((((((Since.refl _).alloc _).alloc _).alloc _).alloc _)) (by simp)))
  have DD := Lib.hid (show Sl 1 QD w6 (.slice (some ⟨w.heap.size + 1 + 1, 0, none⟩) 2 2) aD from sl_doms2 (t := 50) (show Bx w6 (w.heap.size + 1 + 1) #[.slice (some ⟨w.heap.size, 0, none⟩) 1 1, .slice (some ⟨w.heap.size + 1, 0, none⟩) 1 1] 50 by rw [hw6]; exact Bx.new (W := ((w.alloc (.cells #[.int .i64 0, .int .i64 5] 49)).alloc (.cells #[.int .i64 0, .int .i64 5] 49))) (((((Since.refl _).alloc _).alloc _).alloc _)) (by simp)) R1.out R2.out)
  have I1 := Lib.hid (show Sl 1 QI w6 (.slice (some ⟨w.heap.size + 1 + 1 + 1, 0, none⟩) 2 2) [0, 1] by rw [hw6]; exact sl_ints (Bx.new (W := (((w.alloc (.cells #[.int .i64 0, .int .i64 5] 49)).alloc (.cells #[.int .i64 0, .int .i64 5] 49)).alloc (.cells #[.slice (some ⟨w.heap.size, 0, none⟩) 1 1, .slice (some ⟨w.heap.size + 1, 0, none⟩) 1 1] 50))) (cs := #[.int .i64 0, .int .i64 1]) (t := 3) ((((Since.refl _).alloc _).alloc _)) (by simp)) rfl rfl)
  have I2 := Lib.hid (show Sl 1 QI w6 (.slice (some ⟨w.heap.size + 1 + 1 + 1 + 1, 0, none⟩) 2 2) [1, 1] by rw [hw6]; exact sl_ints (Bx.new (W := ((((w.alloc (.cells #[.int .i64 0, .int .i64 5] 49)).alloc (.cells #[.int .i64 0, .int .i64 5] 49)).alloc (.cells #[.slice (some ⟨w.heap.size, 0, none⟩) 1 1, .slice (some ⟨w.heap.size + 1, 0, none⟩) 1 1] 50)).alloc (.cells #[.int .i64 0, .int .i64 1] 3))) (cs := #[.int .i64 1, .int .i64 1]) (t := 2) (((Since.refl _).alloc _)) (by simp)) rfl rfl)
  have BC := Lib.hid (show Bx w6 (w.heap.size + 1 + 1 + 1 + 1 + 1) #[.int .i64 1, .slice (some ⟨w.heap.size + 1 + 1 + 1, 0, none⟩) 2 2, .slice (some ⟨w.heap.size + 1 + 1 + 1 + 1, 0, none⟩) 2 2, .int .i64 9] 25 by rw [hw6]; exact Bx.new (W := (((((w.alloc (.cells #[.int .i64 0, .int .i64 5] 49)).alloc (.cells #[.int .i64 0, .int .i64 5] 49)).alloc (.cells #[.slice (some ⟨w.heap.size, 0, none⟩) 1 1, .slice (some ⟨w.heap.size + 1, 0, none⟩) 1 1] 50)).alloc (.cells #[.int .i64 0, .int .i64 1] 3)).alloc (.cells #[.int .i64 1, .int .i64 1] 2))) (Since.refl _) (by simp))
  have C6 := Lib.hid (show ConAt w6 (.agg #[.int .i64 1, .slice (some ⟨w.heap.size + 1 + 1 + 1, 0, none⟩) 2 2, .slice (some ⟨w.heap.size + 1 + 1 + 1 + 1, 0, none⟩) 2 2, .int .i64 9]) aC from ⟨_, _, rfl, I1.out, I2.out⟩)
  obtain ⟨b0, b1, b2, b3⟩ := bx4 (show Bx ((((((w.alloc (.cells #[.int .i64 0, .int .i64 5] 49)).alloc (.cells #[.int .i64 0, .int .i64 5] 49)).alloc (.cells #[.slice (some ⟨w.heap.size, 0, none⟩) 1 1, .slice (some ⟨w.heap.size + 1, 0, none⟩) 1 1] 50)).alloc (.cells #[.int .i64 0, .int .i64 1] 3)).alloc (.cells #[.int .i64 1, .int .i64 1] 2)).alloc (.cells #[.int .i64 1, .slice (some ⟨w.heap.size + 1 + 1 + 1, 0, none⟩) 2 2, .slice (some ⟨w.heap.size + 1 + 1 + 1 + 1, 0, none⟩) 2 2, .int .i64 9] 25)) (w.heap.size + 1 + 1 + 1 + 1 + 1) #[.int .i64 1, .slice (some ⟨w.heap.size + 1 + 1 + 1, 0, none⟩) 2 2, .slice (some ⟨w.heap.size + 1 + 1 + 1 + 1, 0, none⟩) 2 2, .int .i64 9] 25 from hw6 ▸ BC.out)
  go_enter Try.func23, Try.ntmps23
  go_wp2_with fail
  rw [← hw6]
  clear hw6 b0 b1 b2 b3 R1 R2
  have NA := narrow_any _ _ aC aD w6 C6.out DD.out (szA (.inl rfl))
  rw [aN1] at NA
  (with_reducible refine NA.mono ?_)
  rintro e w7 ⟨k7, g, n, rfl, hg1, hg2, hD⟩
  have hn := hD.len
  simp only [List.length_cons, List.length_nil] at hn
  subst hn
  have K7 := Lib.hid k7
  have HD := Lib.hid hD
  clear NA k7 hg1 hg2 hD
  obtain ⟨b0, b1, b2, b3⟩ := bx4 (BC.out.since K7.out)
  go_wp2_with fail
  have EA := ends_any2 _ _ aC aD w7 (C6.out.since K7.out) (DD.out.since stD K7.out) (szA (.inl rfl))
  rw [aE] at EA
  (with_reducible refine EA.mono ?_)
  rintro e w8 ⟨rfl, k8⟩
  have K8 := Lib.hid k8
  clear EA k8 b0 b1 b2 b3
  simp only [Option.getD_some, Option.isSome_some]
  have HZ := Lib.hid (Bx.fresh w8 #[.int .i64 0, .int .i64 10] 49)
  go_wp2_with fail
  have J1 := sl_ints (Bx.new (W := (w8.alloc (.cells #[.int .i64 0, .int .i64 10] 49))) (cs := #[.int .i64 0]) (t := 3) ((Since.refl _).alloc (.cells #[.int .i64 1] 2)) rfl) (l := [0]) rfl (n := 1) rfl
  have J2 := sl_ints (Bx.new (W := ((w8.alloc (.cells #[.int .i64 0, .int .i64 10] 49)).alloc (.cells #[.int .i64 0] 3))) (cs := #[.int .i64 1]) (t := 2) (Since.refl _) rfl) (l := [1]) rfl (n := 1) rfl
  simp only [World.size_alloc] at J1 J2
  have kA := (((Since.refl w8).alloc (.cells #[.int .i64 0, .int .i64 10] 49)).alloc (.cells #[.int .i64 0] 3)).alloc (.cells #[.int .i64 1] 2)
  have NB := narrow_any (.agg #[.int .i64 2, .slice (some ⟨w8.heap.size + 1, 0, none⟩) 1 1, .slice (some ⟨w8.heap.size + 1 + 1, 0, none⟩) 1 1, .int .i64 (-1)]) _ aC2 aD _ ⟨_, _, rfl, J1, J2⟩ (DD.out.since stD (K7.out.trans (K8.out.trans kA))) (szA (.inr rfl))
  rw [aN2] at NB
  (with_reducible refine NB.mono ?_)
  rintro e w9 ⟨k9, rfl⟩
  have K9 := Lib.hid (kA.trans k9)
  have HZ9 := Lib.hid ((HZ.out.since (((Since.refl _).alloc _).alloc _)).since k9)
  obtain ⟨z0, z1⟩ := HZ9.out.two
  clear NB k9 kA J1 J2
  obtain ⟨A, c, d0, hS⟩ := (HD.out.since (K8.out.trans K9.out)).get (i := 1) (by simp)
  simp only [List.getElem_cons_succ, List.getElem_cons_zero, List.length_cons, List.length_nil] at d0 hS
  have HS := Lib.hid hS
  have RR := Lib.hid (fun W (k : Since w9 W) B (h2 : Sl 2 QR W (.slice B 1 1) [(4, 5)]) => show Calls Try.prog 38 #[.slice A 1 c, .slice B 1 1] W (RetT true W) from ranges_same (hS.since stR k) h2 (by simp))
  go_wp2_with fail
  have R9 := RR.out _ (since_alloc _ _) _ (sl_dom1 (Bx.fresh w9 #[.int .i64 4, .int .i64 5] 49))
  (with_reducible refine R9.mono ?_)
  rintro e wa ⟨rfl, ka⟩
  have KA := Lib.hid ((since_alloc _ _).trans ka)
  obtain ⟨z0, z1⟩ := (HZ9.out.since ((since_alloc _ _).trans ka)).two
  clear ka R9
  go_wp2
  go_ret
  exact ⟨rfl, S6.out.trans (K7.out.trans (K8.out.trans (K9.out.trans KA.out)))⟩
end
end Go.Proofs.Ytoegbgkgenjplaa.Ln
