/- Layer 13 (reify): the landed exceed. -/
import Derived.Test.YtoegbgkgenjplaaWc
namespace Go.Proofs.Ytoegbgkgenjplaa.Rf
open Go.RowKit
set_option linter.unusedVariables false
set_option linter.unusedSimpArgs false
open Go.Proofs.Ytoegbgkgenjplaa.Dig Go.Proofs.Ytoegbgkgenjplaa.Lx Go.Proofs.Ytoegbgkgenjplaa.Tk Go.Proofs.Ytoegbgkgenjplaa.Ti Go.Proofs.Ytoegbgkgenjplaa.Zs Go.Proofs.Ytoegbgkgenjplaa.Tr Go.Proofs.Ytoegbgkgenjplaa.Sn Go.Proofs.Ytoegbgkgenjplaa.Ln
theorem dat_cell {g n : Nat} {w0 w : World} {D : Ln.Ds} (h : DAt g n w0 w D) {i : Nat} (hi : i < n) : ∃ u, w.cell? ⟨g, i, none⟩ = some u := by
  obtain ⟨A, c, h1, -⟩ := h.get (i := i) (by have := h.len; omega)
  exact ⟨_, h1⟩
theorem ex_start (w1 : World) (f m : Int) : TwoI w1 (((w1.alloc (.cells #[.int .i64 f] 3)).alloc (.cells #[.int .i64 1] 2)).alloc (.cells #[.int .i64 2, .slice (some ⟨w1.heap.size, 0, none⟩) 1 1, .slice (some ⟨w1.heap.size + 1, 0, none⟩) 1 1, .int .i64 m] 25)) (w1.heap.size + 1 + 1) (.slice (some ⟨w1.heap.size, 0, none⟩) 1 1) (.slice (some ⟨w1.heap.size + 1, 0, none⟩) 1 1) [f] [1] ∧ Bx (((w1.alloc (.cells #[.int .i64 f] 3)).alloc (.cells #[.int .i64 1] 2)).alloc (.cells #[.int .i64 2, .slice (some ⟨w1.heap.size, 0, none⟩) 1 1, .slice (some ⟨w1.heap.size + 1, 0, none⟩) 1 1, .int .i64 m] 25)) (w1.heap.size + 1 + 1) #[.int .i64 2, .slice (some ⟨w1.heap.size, 0, none⟩) 1 1, .slice (some ⟨w1.heap.size + 1, 0, none⟩) 1 1, .int .i64 m] 25 := by
  have r1 := rq_one (t := 3) f (Since.refl w1)
  have r2 := rq_one (t := 2) 1 (since_alloc w1 (.cells #[.int .i64 f] 3))
  have z1 : (w1.alloc (.cells #[.int .i64 f] 3)).heap.size = w1.heap.size + 1 := by simp
  have z2 : ((w1.alloc (.cells #[.int .i64 f] 3)).alloc (.cells #[.int .i64 1] 2)).heap.size = w1.heap.size + 1 + 1 := by simp
  have z3 : (((w1.alloc (.cells #[.int .i64 f] 3)).alloc (.cells #[.int .i64 1] 2)).alloc (.cells #[.int .i64 2, .slice (some ⟨w1.heap.size, 0, none⟩) 1 1, .slice (some ⟨w1.heap.size + 1, 0, none⟩) 1 1, .int .i64 m] 25)).heap.size = w1.heap.size + 1 + 1 + 1 := by simp
  rw [z1] at r2
  refine ⟨⟨r1.since ((since_alloc _ _).trans (since_alloc _ _)), r2.since (since_alloc _ _), ?_, by rw [z3]; omega, ?_, ?_⟩, ?_⟩
  · intro b h1 h2
    simp only [Value.ownBlock, Option.some.injEq] at h1 h2
    omega
  · simp only [Value.ownBlock, ne_eq, Option.some.injEq]; omega
  · simp only [Value.ownBlock, ne_eq, Option.some.injEq]; omega
  · rw [← z2]; exact Bx.fresh _ _ _
theorem new_one {w : World} (n : Int) : NewR w (w.alloc (.cells #[.int .i64 n, .int .i64 n] 49)) (.slice (some ⟨w.heap.size, 0, none⟩) 1 1) [(n, n)] := by
  refine ⟨sl_dom1 (Bx.fresh w _ _), fun b hb => ?_⟩
  simp only [Value.ownBlock, Option.some.injEq] at hb
  subst hb
  exact ⟨Nat.le_refl _, by simp, fun j => (Bx.fresh w #[.int .i64 n, .int .i64 n] 49).no j⟩
theorem ex_raise {wr w6 w : World} {g6 c6 n F : Nat} {D : Ln.Ds} (h : Cp wr w6 g6 D) (hn : D.length = n) (hc : D.length ≤ c6) (hk : Since wr w6) (hg : wr.heap.size ≤ g6) (hF : F < D.length) (hs : Since w wr) :
    Since wr ((w6.alloc (.cells #[.int .i64 1, .int .i64 1] 49)).setCell ⟨g6, F, none⟩ (.slice (some ⟨w6.heap.size, 0, none⟩) 1 1)) ∧ Sl 1 QD ((w6.alloc (.cells #[.int .i64 1, .int .i64 1] 49)).setCell ⟨g6, F, none⟩ (.slice (some ⟨w6.heap.size, 0, none⟩) 1 1)) (.slice (some ⟨g6, 0, none⟩) n c6) (D.set F [(1, 1)]) := by
  have k1 := since_alloc w6 (.cells #[.int .i64 1, .int .i64 1] 49)
  have k2 : Since wr ((w6.alloc (.cells #[.int .i64 1, .int .i64 1] 49)).setCell ⟨g6, F, none⟩ (.slice (some ⟨w6.heap.size, 0, none⟩) 1 1)) := (hk.trans k1).set (p := ⟨g6, F, none⟩) hg _
  refine ⟨k2, (h.since k1).put hn (by omega) (hk.trans k1) hg hF ?_⟩
  have hb : Bx (w6.alloc (.cells #[.int .i64 1, .int .i64 1] 49)) w6.heap.size #[.int .i64 1, .int .i64 1] 49 := Bx.fresh _ _ _
  refine sl_dom1 ?_
  obtain ⟨cur, hc, -⟩ := h
  have := bx_lt hc
  unfold Bx at hb ⊢
  rw [Below.heap_setCell _ _ _ _ (by simp only; omega)]
  exact hb
set_option maxRecDepth 20000 in
set_option maxHeartbeats 4000000 in
theorem exceed_any (v vd : Value) (c : Cn) (ds : Ln.Ds) (w : World) (h : ConAt w v c) (hd : Sl 1 QD w vd ds) (hm : modOk ⟨ds, [c], 0, 0⟩ = true) (hk : 4 ≤ c.k ∧ c.k ≤ 6) (h0 : domAt ds (fl c.x) = [(0, 0)]) :
    Calls Try.prog 106 #[v, vd] w (RetNr (narL 2 (-c.c - 1) (neg c.a) c.x ds, if (narL 2 (-c.c - 1) (neg c.a) c.x ds).isSome then 0 else 12) w) := by
  obtain ⟨m1, m2, m3⟩ := mod_parts hm
  have hp := flg_parts m1 m3 hk
  obtain ⟨R, hR⟩ : ∃ R, R = narL 2 (-c.c - 1) (neg c.a) c.x ds := ⟨_, rfl⟩
  rw [← hR]
  obtain ⟨q0, hq0⟩ : ∃ q0 : Int, q0 = (if R.isSome then 0 else 12) := ⟨_, rfl⟩
  rw [← hq0]
  have HQ0 := Lib.hid hq0
  clear hq0
  have NR := ex_nar hm hk h0 hR
  have BK := Lib.hid (fun E (hE : R = some E) => ex_back hm hk h0 (hR.symm.trans hE))
  have EM := ex_mod hm hk
  have hzl : (c.a.zip c.x).length = c.a.length := by rw [List.length_zip]; have := hp.len; omega
  have hxl := hp.lin.x32
  have hpl := px_len (fl c.x) (c.a.zip c.x) (c.a.zip c.x).length
  rw [List.take_length] at hpl
  have SZ := mod_sz EM (by simp only; have := hp.len; omega)
  have hxne : c.x ≠ [] := by intro e; have := hp.len; rw [e] at this; simp at this
  have NA := Lib.hid (fun W v' vd' (hC : ConAt W v' ⟨2, pX (fl c.x) (c.a.zip c.x), pA (fl c.x) (c.a.zip c.x), -c.c⟩) (hD : Sl 1 QD W vd' (ds.set (fl c.x).toNat [(1, 1)])) => by have := narrow_any v' vd' _ _ W hC hD SZ; rw [NR] at this; exact this)
  have FO := Lib.hid (fun W (k : Since w W) => flagOf_any v c W (h.since k) hxne (by omega))
  have CLN := Lib.hid (fun W (k : Since w W) => clone2_any vd ds W (hd.since stD k) (by have := hp.inx; omega) (by omega))
  have hlen := hp.len
  have HAB9 := hp.lin.w
  have hcb := hp.lin.cb
  obtain ⟨F, hF⟩ : ∃ F : Nat, fl c.x = (F : Int) := ⟨(fl c.x).toNat, by have := hp.inx; omega⟩
  have hFl := Lib.hid (show F < ds.length by have := hp.inx; omega)
  rw [hF] at NA FO BK
  simp only [Int.toNat_natCast] at NA BK
  obtain ⟨L, hL⟩ : ∃ L, L = c.a.zip c.x := ⟨_, rfl⟩
  rw [← hL] at NA hzl
  have LE := Lib.hid (fun k (hk : k < L.length) (k1 : k < c.a.length) (k2 : k < c.x.length) => show L[k].1 = c.a[k] ∧ L[k].2 = c.x[k] by subst hL; simp)
  clear hR NR EM SZ hL hpl hp m1 m2 m3 hm hk h0 hF hxne
  obtain ⟨vx, vy, rfl, h1, h2⟩ := h
  obtain ⟨ck, cx, ca, cc⟩ := c
  simp only at *
  obtain ⟨X, xc, rfl⟩ := h1.form
  obtain ⟨Y, yc, rfl⟩ := h2.form
  obtain ⟨D, dc, rfl⟩ := hd.form
  obtain ⟨nx, hnx⟩ : ∃ n, n = cx.length := ⟨_, rfl⟩
  obtain ⟨ny, hny⟩ : ∃ n, n = ca.length := ⟨_, rfl⟩
  obtain ⟨nd, hnd⟩ : ∃ n, n = ds.length := ⟨_, rfl⟩
  have hND := Lib.hid hnd.symm
  have hFn := Lib.hid (show F < nd by have := hFl.out; omega)
  have DL := Lib.hid (fun (E : Ln.Ds) (m : Nat) (h : (E.set F [(1, 1)]).length = m) (he : E.length = ds.length) => show m = nd by rw [List.length_set] at h; omega)
  rw [← hnx] at h1 hxl hlen
  rw [← hny] at h2 hzl hlen
  rw [← hnd] at hd
  rw [← hnx, ← hny] at FO
  rw [← hnd] at CLN
  rw [← hnx, ← hny, ← hnd]
  have H1 := Lib.hid h1
  have H2 := Lib.hid h2
  have HNX := Lib.hid hnx
  have HNY := Lib.hid hny
  have HZL := Lib.hid hzl
  have WC : IntKind.i64.wrap (-cc) = -cc := wrap_id' (by omega) (by omega)
  have HLEN := Lib.hid hlen
  have hny31 : ny ≤ 100 := by omega
  have hF64 : F < nd := hFn.out
  have hab : ∀ y ∈ ca, -1048576 ≤ y ∧ y ≤ 1048576 := fun y hy => (within_iff' _).1 (List.all_eq_true.1 HAB9 y hy)
  have HA := Lib.hid hab
  have ka := Lib.hid (since_alloc w (.cells #[.int .i64 ck, .slice X nx xc, .slice Y ny yc, .int .i64 cc] 25))
  have BC := Lib.hid (Bx.fresh w #[.int .i64 ck, .slice X nx xc, .slice Y ny yc, .int .i64 cc] 25)
  obtain ⟨b0, b1, b2, b3⟩ := bx4 BC.out
  clear h1 h2 hd hnx hny hnd hzl hlen hxl hcb hab HAB9
  go_enter Try.func106, Try.ntmps106
  go_wp2_with (go_at_call 69; (with_reducible refine (FO.out _ ka.out).mono ?_); rintro e w1 ⟨rfl, k1, -⟩; have L1 := Lib.hid k1; obtain ⟨b0, b1, b2, b3⟩ := bx4 (BC.out.since (k1.trans ((since_alloc w1 (.cells #[.int .i64 (F : Int)] 3)).trans (since_alloc _ (.cells #[.int .i64 1] 2))))); obtain ⟨c0, c1, c2, c3⟩ := bx4 (BC.out.since (k1.trans (((since_alloc w1 (.cells #[.int .i64 (F : Int)] 3)).trans (since_alloc _ (.cells #[.int .i64 1] 2))).trans (since_alloc _ (.cells #[.int .i64 2, .slice (some ⟨w1.heap.size, 0, none⟩) 1 1, .slice (some ⟨w1.heap.size + 1, 0, none⟩) 1 1, .int .i64 (-cc)] 25))))); clear k1)
  obtain ⟨w5, hw5⟩ : ∃ w5, w5 = (((w1.alloc (.cells #[.int .i64 (F : Int)] 3)).alloc (.cells #[.int .i64 1] 2)).alloc (.cells #[.int .i64 2, .slice (some ⟨w1.heap.size, 0, none⟩) 1 1, .slice (some ⟨w1.heap.size + 1, 0, none⟩) 1 1, .int .i64 (-cc)] 25)) := ⟨_, rfl⟩
  have ST := ex_start w1 (F : Int) (-cc)
  rw [← hw5] at ST
  obtain ⟨ST1, ST2⟩ := ST
  have ST1 := Lib.hid ST1
  have ST2 := Lib.hid ST2
  rw [← hw5]
  clear hw5 b0 b1 b2 b3 c0 c1 c2 c3
  have HW1 := Lib.hid (ka.out.trans L1.out)
  go_loopw [25] (fun i wr => ∃ (k m : Nat) (P : Option Addr) (pc : Nat) (Q : Option Addr) (qc : Nat), i = .int .i64 (k : Int) ∧ k ≤ ny ∧ m ≤ k + 1 ∧ Hid (TwoI w1 wr (w1.heap.size + 1 + 1) (.slice P m pc) (.slice Q m qc) (pX F (L.take k)) (pA F (L.take k))) ∧ Hid (Bx wr (w1.heap.size + 1 + 1) #[.int .i64 2, .slice P m pc, .slice Q m qc, .int .i64 (-cc)] 25) ∧ Hid ((pX F (L.take k)).length = m)) (fun i _ => ny - (intOf i).toNat)
  case atStart => exact ⟨0, 1, _, 1, _, 1, rfl, Nat.zero_le _, Nat.le_refl _, by simpa [pX, pA] using ST1, ST2, Lib.hid (by simp [pX])⟩
  case round =>
    obtain ⟨k, m, P, pc, Q, qc, rfl, hk, hm1, HT, HD, HLN⟩ := hrel
    have SWR := Lib.hid (HW1.out.trans HT.out.s)
    have HB := Lib.hid (BC.out.since (L1.out.trans HT.out.s))
    obtain ⟨b0, b1, b2, b3⟩ := bx4 HB.out
    by_cases hkn : k < ny
    · have hkl : k < ca.length := by have := HNY.out; omega
      have hkx : k < cx.length := by have := HNX.out; have := HLEN.out; omega
      have hknx : k < nx := by have := HLEN.out; omega
      have hkL : k < L.length := by have := HZL.out; omega
      obtain ⟨gy, oy, rfl, ey⟩ := elI (H2.out.since stI SWR.out) hkl
      obtain ⟨gx, ox, rfl, ex⟩ := elI (H1.out.since stI SWR.out) hkx
      obtain ⟨l1, l2⟩ := LE.out k hkL hkl hkx
      have PN := Lib.hid (fun e => px_no (f := (F : Int)) hkL e)
      have PY := Lib.hid (fun e => px_yes (f := (F : Int)) hkL e)
      rw [l2] at PN PY
      rw [l1] at PY
      obtain ⟨ha1, ha2⟩ := HA.out _ (List.getElem_mem hkl)
      have WY : IntKind.i64.wrap (-ca[k]) = -ca[k] := wrap_id' (by omega) (by omega)
      clear l1 l2
      generalize ca[k] = y at *
      generalize cx[k] = z at *
      by_cases c1 : z = (F : Int)
      · obtain ⟨q1, q2⟩ := PN.out c1
        have Q1 := Lib.hid q1
        have Q2 := Lib.hid q2
        clear q1 q2 PN PY
        subst c1
        obtain ⟨d0, d1, d2, d3⟩ := bx4 HD.out
        go_wp2
        go_roundw
        case rel => exact ⟨k + 1, m, P, pc, Q, qc, by go_num, by omega, by omega, by rw [Q1.out, Q2.out]; exact HT, HD, by rw [Q1.out]; exact HLN⟩
        case measure => simp [intOf]; omega
      · obtain ⟨q1, q2⟩ := PY.out c1
        have Q1 := Lib.hid q1
        have Q2 := Lib.hid q2
        have hlx : (pX (F : Int) (L.take k)).length ≤ 1000000 := by have := HLN.out; omega
        have hly : (pA (F : Int) (L.take k)).length ≤ 1000000 := by have := (px_len (F : Int) L k).2; have := HLN.out; omega
        have HLM := Lib.hid (show (pA (F : Int) (L.take k)).length = m by have := (px_len (F : Int) L k).2; have := HLN.out; omega)
        clear q1 q2 PN PY
        have CX := Lib.hid (fun W (k : Since wr W) => show W.cell? ⟨gx, ox + _, none⟩ = some (.int .i64 z) from (k.cell _ (World.block_lt_of_cell? _ _ ex)).trans ex)
        obtain ⟨d0, d1, d2, d3⟩ := bx4 HD.out
        go_wp2
        have hr0 : Since wr wr.drew := Since.drew (Since.refl wr)
        refine wp_region_noPanic ?_
        refine Reg.wp_region_G (S := fun _ => True) (fun j => [8, 9, 10].contains j) (by kernel_rfl) trivial ?_
        refine' Reg.tk (i := 0) (oi := { dst := some 37, op := Op.fieldAddr 25 (Operand.tmp 7) 1, type := 0, pos := "truth.go:44", after := #[], guard := none }) (v := _) [1, 8, 9, 10] [8, 9, 10] (Or.inl ⟨by rfl, Or.inl ?hy1⟩) ?rest1
        case hy1 => (intro w' kk ss; obtain ⟨x0, x1, x2, x3⟩ := bx4 (HB.out.since (hr0.trans kk)); obtain ⟨y0, y1, y2, y3⟩ := bx4 (HD.out.since (hr0.trans kk)); have u0 := CX.out _ (hr0.trans kk); go_simp; first | done | with_reducible rfl)
        try simp only [Act.put, List.setIfInBounds_toArray, List.set_cons_zero, List.set_cons_succ]
        refine' Reg.tk (i := 1) (oi := { dst := some 38, op := Op.load 22 (Operand.tmp 37), type := 22, pos := "truth.go:44", after := #[{ on := 0, ground := Ground.data }], guard := none }) (v := _) [8, 9, 10] [8, 9, 10] (Or.inl ⟨by rfl, Or.inl ?hy2⟩) ?rest2
        case hy2 => (intro w' kk ss; obtain ⟨x0, x1, x2, x3⟩ := bx4 (HB.out.since (hr0.trans kk)); obtain ⟨y0, y1, y2, y3⟩ := bx4 (HD.out.since (hr0.trans kk)); have u0 := CX.out _ (hr0.trans kk); go_simp; first | done | with_reducible rfl)
        try simp only [Act.put, List.setIfInBounds_toArray, List.set_cons_zero, List.set_cons_succ]
        refine' Reg.tk (i := 2) (oi := { dst := some 39, op := Op.fieldAddr 25 (Operand.tmp 2) 1, type := 0, pos := "truth.go:44", after := #[], guard := none }) (v := _) [3, 5, 6, 7, 8, 9, 10] [8, 9, 10] (Or.inl ⟨by rfl, Or.inl ?hy3⟩) ?rest3
        case hy3 => (intro w' kk ss; obtain ⟨x0, x1, x2, x3⟩ := bx4 (HB.out.since (hr0.trans kk)); obtain ⟨y0, y1, y2, y3⟩ := bx4 (HD.out.since (hr0.trans kk)); have u0 := CX.out _ (hr0.trans kk); go_simp; first | done | with_reducible rfl)
        try simp only [Act.put, List.setIfInBounds_toArray, List.set_cons_zero, List.set_cons_succ]
        refine' Reg.tk (i := 3) (oi := { dst := some 40, op := Op.load 22 (Operand.tmp 39), type := 22, pos := "truth.go:44", after := #[{ on := 2, ground := Ground.data }], guard := none }) (v := _) [5, 6, 7, 8, 9, 10] [8, 9, 10] (Or.inl ⟨by rfl, Or.inl ?hy4⟩) ?rest4
        case hy4 => (intro w' kk ss; obtain ⟨x0, x1, x2, x3⟩ := bx4 (HB.out.since (hr0.trans kk)); obtain ⟨y0, y1, y2, y3⟩ := bx4 (HD.out.since (hr0.trans kk)); have u0 := CX.out _ (hr0.trans kk); go_simp; first | done | with_reducible rfl)
        try simp only [Act.put, List.setIfInBounds_toArray, List.set_cons_zero, List.set_cons_succ]
        refine' Reg.tk (i := 4) (oi := { dst := some 41, op := Op.move (Operand.tmp 8), type := 3, pos := "truth.go:44", after := #[], guard := none }) (v := _) [5, 6, 7, 8, 9, 10] [8, 9, 10] (Or.inl ⟨by rfl, Or.inl ?hy5⟩) ?rest5
        case hy5 => (intro w' kk ss; obtain ⟨x0, x1, x2, x3⟩ := bx4 (HB.out.since (hr0.trans kk)); obtain ⟨y0, y1, y2, y3⟩ := bx4 (HD.out.since (hr0.trans kk)); have u0 := CX.out _ (hr0.trans kk); go_simp; first | done | with_reducible rfl)
        try simp only [Act.put, List.setIfInBounds_toArray, List.set_cons_zero, List.set_cons_succ]
        refine' Reg.tk (i := 5) (oi := { dst := some 42, op := Op.indexAddr 22 (Operand.tmp 40) (Operand.tmp 41), type := 0, pos := "truth.go:44", after := #[{ on := 3, ground := Ground.data }, { on := 4, ground := Ground.data }], guard := none }) (v := _) [6, 7, 8, 9, 10] [8, 9, 10] (Or.inl ⟨by rfl, Or.inl ?hy6⟩) ?rest6
        case hy6 => (intro w' kk ss; obtain ⟨x0, x1, x2, x3⟩ := bx4 (HB.out.since (hr0.trans kk)); obtain ⟨y0, y1, y2, y3⟩ := bx4 (HD.out.since (hr0.trans kk)); have u0 := CX.out _ (hr0.trans kk); go_simp; first | done | with_reducible rfl)
        try simp only [Act.put, List.setIfInBounds_toArray, List.set_cons_zero, List.set_cons_succ]
        refine' Reg.tk (i := 6) (oi := { dst := some 43, op := Op.load 3 (Operand.tmp 42), type := 3, pos := "truth.go:44", after := #[{ on := 5, ground := Ground.data }], guard := none }) (v := _) [7, 8, 9, 10] [8, 9, 10] (Or.inl ⟨by rfl, Or.inl ?hy7⟩) ?rest7
        case hy7 => (intro w' kk ss; obtain ⟨x0, x1, x2, x3⟩ := bx4 (HB.out.since (hr0.trans kk)); obtain ⟨y0, y1, y2, y3⟩ := bx4 (HD.out.since (hr0.trans kk)); have u0 := CX.out _ (hr0.trans kk); go_simp; first | done | with_reducible rfl)
        try simp only [Act.put, List.setIfInBounds_toArray, List.set_cons_zero, List.set_cons_succ]
        refine Reg.wpG_ready (rs := [7]) (by kernel_rfl) (by simp) (fun wa1 ka1 sa1 => ?_)
        have hr0 := hr0.trans ka1
        have hgb1 := hr0.size
        refine Reg.AllG.first (o := { dst := some 44, op := Op.buildSlice 22 1 #[(0, Operand.tmp 43)], type := 22, pos := "truth.go:44", after := #[{ on := 6, ground := Ground.data }], guard := none }) rfl (by rfl) (fun K hK => ?_) Reg.AllG.nil
        go_simp
        have hx := since_alloc wa1 (.cells #[.int .i64 z] 3)
        refine hK.out _ _ trivial hx ?_
        clear hK K
        have hr0 := hr0.trans hx
        have HG := Lib.hid (fun W (k : Since _ W) => (Bx.fresh wa1 #[.int .i64 z] 3).since k)
        clear hx
        try simp only [Act.put, List.setIfInBounds_toArray, List.set_cons_zero, List.set_cons_succ]
        refine Reg.wpG_ready (rs := [8]) (by kernel_rfl) (by simp) (fun wq kq sq => ?_)
        have hr0 := hr0.trans kq
        refine Reg.AllG.last (o := { dst := some 45, op := Op.call { callee := Callee.builtin Builtin.append, args := #[Operand.tmp 38, Operand.tmp 44], argTypes := #[22, 22] }, type := 22, pos := "truth.go:44", after := #[{ on := 1, ground := Ground.data }, { on := 7, ground := Ground.data }], guard := none }) rfl (by rfl) (fun K hK => ?_) Reg.AllG.nil
        rw [if_pos (by rfl)]
        refine wp_appW nI (HT.out.since hr0).1 hlx z (.int .i64 z) rfl rfl wa1.heap.size 1 ((HG.out _ kq).cell 0) _ _ rfl rfl rfl ?_
        rw [HLN.out]
        intro A3 c3 w3 h3 q3
        have t3 := (HT.out.since hr0).x q3 h3
        have bb := bx_grown q3.1 (HD.out.since hr0) HT.out.2.2.2.2.1
        obtain ⟨f0, f1, f2, f3⟩ := bx4 bb
        obtain ⟨g0, g1, g2, g3⟩ := bx4' bb
        have R3 := Lib.hid t3
        have B3 := Lib.hid bb
        clear bb h3 q3 t3
        refine hK.out _ _ trivial (fun hHeld => ?_)
        clear hK K
        try simp only [Act.put, List.setIfInBounds_toArray, List.set_cons_zero, List.set_cons_succ]
        refine' wpAnyH_take (i := 9) (oi := { dst := some 46, op := Op.fieldAddr 25 (Operand.tmp 7) 1, type := 0, pos := "truth.go:44", after := #[{ on := 0, ground := Ground.phase }, { on := 1, ground := Ground.phase }, { on := 2, ground := Ground.phase }, { on := 3, ground := Ground.phase }, { on := 4, ground := Ground.phase }, { on := 5, ground := Ground.phase }, { on := 6, ground := Ground.phase }, { on := 7, ground := Ground.phase }, { on := 8, ground := Ground.phase }], guard := none }) (v := _) rfl (by kernel_rfl) (by kernel_rfl) (by kernel_rfl) (fun _ _ _ h => h) (Or.inl ⟨by rfl, ?hy8⟩) (by assumption) ?rest8
        case hy8 => (intro w' ss; (try dsimp only at ss); go_simp; first | done | with_reducible rfl)
        try simp only [Act.put, List.setIfInBounds_toArray, List.set_cons_zero, List.set_cons_succ]
        refine wpAnyH_ready (rs := [10]) (by kernel_rfl) (by simp) ?_
        refine AllReadyH.cons rfl (fun K hK => ?_) AllReadyH.nil
        go_simp
        refine hK.out _ _ trivial (fun hHeld => ?_)
        clear hK K
        try simp only [Act.put, List.setIfInBounds_toArray, List.set_cons_zero, List.set_cons_succ]
        refine wpAnyH_done (by kernel_rfl) ?_ _
        refine NoPanic.normal ?_
        have HB7 := Lib.hid (show w1.heap.size ≤ w1.heap.size + 1 + 1 by omega)
        obtain ⟨w9, hw9⟩ : ∃ w9, w9 = w3.setCell ⟨w1.heap.size + 1 + 1, 1, none⟩ (.slice A3 (m + 1) c3) := ⟨_, rfl⟩
        have T9 := R3.out.set HB7.out 1 (.slice A3 (m + 1) c3)
        have B9 := bxset B3.out 1 (.slice A3 (m + 1) c3) rfl
        rw [← hw9] at T9 B9
        have T9 := Lib.hid T9
        have B9 := Lib.hid B9
        rw [← hw9]
        clear hw9 R3 B3 f0 f1 f2 f3 g0 g1 g2 g3
        obtain ⟨f0, f1, f2, f3⟩ := bx4 (show Bx w9 _ #[.int .i64 2, .slice A3 (m + 1) c3, .slice Q m qc, .int .i64 (-cc)] _ from B9.out)
        go_wp2_with (at_builtin; refine wpList_appW nL (T9.out.since (since_alloc _ _)).2.1 hly (-y) (.int .i64 (-y)) rfl rfl w9.heap.size 1 ((Bx.fresh w9 #[.int .i64 (-y)] 2).cell 0) (by rfl) _ _ rfl rfl rfl ?_; rw [HLM.out]; intro A4 c4 w4 h4 q4; have TT := Lib.hid ((T9.out.since (since_alloc _ _)).d q4 h4); have B4 := Lib.hid (bx_grown q4.1 (B9.out.since (since_alloc _ _)) T9.out.2.2.2.2.2); obtain ⟨n0, n1, n2, n3⟩ := bx4 (show Bx w4 _ #[.int .i64 2, .slice A3 (m + 1) c3, .slice Q m qc, .int .i64 (-cc)] _ from B4.out); obtain ⟨p0, p1, p2, p3⟩ := bx4' (show Bx w4 _ #[.int .i64 2, .slice A3 (m + 1) c3, .slice Q m qc, .int .i64 (-cc)] _ from B4.out); clear h4 q4)
        go_roundw
        case rel =>
          refine ⟨k + 1, m + 1, A3, c3, A4, c4, by go_num, by omega, by omega, Lib.hid ?_, Lib.hid (bxset B4.out 2 (.slice A4 (m + 1) c4) rfl), Lib.hid ?_⟩
          · rw [Q1.out, Q2.out]; exact TT.out.set HB7.out 2 (.slice A4 (m + 1) c4)
          · rw [Q1.out, List.length_append, HLN.out]; rfl
        case measure => simp [intOf]; omega
    · obtain rfl : k = ny := by omega
      have HTL := Lib.hid (show L.take k = L from List.take_of_length_le (by have := HZL.out; omega))
      rw [HTL.out] at HT
      have CO := Lib.hid (fun W (k5 : Since wr W) => show ConAt W (.agg #[.int .i64 2, .slice P m pc, .slice Q m qc, .int .i64 (-cc)]) ⟨2, pX F L, pA F L, -cc⟩ from ⟨_, _, rfl, HT.out.slX.since stI k5, HT.out.slD.since stI k5⟩)
      obtain ⟨d0, d1, d2, d3⟩ := bx4 HD.out
      unfold RetNr at NA
      cases R with
      | none =>
        obtain rfl : q0 = 12 := by simpa using HQ0.out
        simp only [Option.map_none, Option.isSome_none, Bool.false_eq_true, if_false] at NA
        go_wp2_with (first | (go_at_call 136; go_loud ((with_reducible refine (CLN.out _ SWR.out).mono ?_); rintro e w6 ⟨g6, c6, rfl, hc6, hg6, hg6', hcp, k6⟩; have H6 := Lib.hid (ex_raise (D := ds) (n := nd) (c6 := c6) hcp hND.out (by have := hND.out; omega) k6 hg6 hFl.out SWR.out); obtain ⟨⟨u6, e6⟩, f6⟩ := (hcp.since (since_alloc w6 (.cells #[.int .i64 1, .int .i64 1] 49))).cell hFl.out; have S6 := Lib.hid H6.out.1; obtain ⟨d0, d1, d2, d3⟩ := bx4 (HD.out.since S6.out); have HC := Lib.hid (CO.out _ S6.out); have HE := Lib.hid H6.out.2; clear hcp k6 hg6 hg6' hc6)) | (go_at_call 27; (with_reducible refine (NA.out _ _ _ HC.out HE.out).mono ?_); rintro e w7 ⟨k7, rfl⟩; have K7 := Lib.hid k7; clear k7))
        go_ret2
        exact ⟨SWR.out.trans (S6.out.trans K7.out), rfl⟩
      | some E =>
        obtain rfl : q0 = 0 := by simpa using HQ0.out
        obtain ⟨bk1, bk2⟩ := BK.out E rfl
        have BK1 := Lib.hid bk1
        have DL := Lib.hid (fun m (h : (E.set F [(1, 1)]).length = m) => DL.out E m h bk2)
        simp only [Option.map_some, Option.isSome_some, if_true] at NA
        clear bk1 bk2 BK
        go_wp2_with (first | (go_at_call 136; go_loud ((with_reducible refine (CLN.out _ SWR.out).mono ?_); rintro e w6 ⟨g6, c6, rfl, hc6, hg6, hg6', hcp, k6⟩; have H6 := Lib.hid (ex_raise (D := ds) (n := nd) (c6 := c6) hcp hND.out (by have := hND.out; omega) k6 hg6 hFl.out SWR.out); obtain ⟨⟨u6, e6⟩, f6⟩ := (hcp.since (since_alloc w6 (.cells #[.int .i64 1, .int .i64 1] 49))).cell hFl.out; have S6 := Lib.hid H6.out.1; obtain ⟨d0, d1, d2, d3⟩ := bx4 (HD.out.since S6.out); have HC := Lib.hid (CO.out _ S6.out); have HE := Lib.hid H6.out.2; clear hcp k6 hg6 hg6' hc6)) | (go_at_call 27; go_loud ((with_reducible refine (NA.out _ _ _ HC.out HE.out).mono ?_); rintro e w7 ⟨k7, g7, n7, rfl, hg1, hg2, hD7⟩; have hn7 := DL.out _ hD7.len; subst hn7; have K7 := Lib.hid k7; have D7 := Lib.hid hD7; have G7 := Lib.hid (And.intro hg1 hg2); obtain ⟨u7, e7⟩ := dat_cell (hD7.since (since_alloc w7 (.cells #[.int .i64 0, .int .i64 0] 49))) hFn.out; have f7 := (hD7.since (since_alloc w7 (.cells #[.int .i64 0, .int .i64 0] 49))).no hFn.out; clear k7 hg1 hg2 hD7)))
        go_ret2
        have kz := since_alloc w7 (.cells #[.int .i64 0, .int .i64 0] 49)
        have hp2 := D7.out.put2 kz hFn.out (new_one 0) K7.out.size G7.out.2
        rw [BK1.out] at hp2
        have hsz : w.heap.size ≤ ((w6.alloc (.cells #[.int .i64 1, .int .i64 1] 49)).setCell ⟨g6, F, none⟩ (.slice (some ⟨w6.heap.size, 0, none⟩) 1 1)).heap.size := Nat.le_trans SWR.out.size S6.out.size
        refine ⟨?_, g7, _, rfl, Nat.le_trans hsz G7.out.1, ?_, hp2.low hsz⟩
        · exact ((SWR.out.trans (S6.out.trans K7.out)).trans kz).set (p := ⟨g7, F, none⟩) (Nat.le_trans hsz G7.out.1) _
        · simp [World.setCell]; have := G7.out.2; omega
end Go.Proofs.Ytoegbgkgenjplaa.Rf
