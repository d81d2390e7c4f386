/- Layer 11 (sense): the document's own sum, load, tasks. -/
import Derived.Test.YtoegbgkgenjplaaQax
namespace Go.Proofs.Ytoegbgkgenjplaa.Sn
open Go.RowKit
set_option linter.unusedVariables false
set_option linter.unusedSimpArgs false
open Go.Proofs.Ytoegbgkgenjplaa.Dig Go.Proofs.Ytoegbgkgenjplaa.Lx Go.Proofs.Ytoegbgkgenjplaa.Tk Go.Proofs.Ytoegbgkgenjplaa.Ti Go.Proofs.Ytoegbgkgenjplaa.Zs Go.Proofs.Ytoegbgkgenjplaa.Tr
theorem mul_abs {d s : Int} (h : -1048576 ≤ d ∧ d ≤ 1048576) (k : -1048576 ≤ s ∧ s ≤ 1048576) : (d * s).natAbs ≤ 1099511627776 := by
  rw [Int.natAbs_mul]
  exact Nat.le_trans (Nat.mul_le_mul (show d.natAbs ≤ 1048576 by omega) (show s.natAbs ≤ 1048576 by omega)) (by decide)
theorem mul_lo {d s : Int} (h : -1048576 ≤ d ∧ d ≤ 1048576) (k : -1048576 ≤ s ∧ s ≤ 1048576) : -1099511627776 ≤ d * s := by have := mul_abs h k; omega
theorem mul_hi {d s : Int} (h : -1048576 ≤ d ∧ d ≤ 1048576) (k : -1048576 ≤ s ∧ s ≤ 1048576) : d * s ≤ 1099511627776 := by have := mul_abs h k; omega
set_option maxRecDepth 20000 in
set_option maxHeartbeats 3000000 in
theorem rsum_any (v vv : Value) (c : Cn) (l : List Int) (w : World) (h : ConAt w v c) (hv : Sl 1 QI w vv l) (hn : c.a.length ≤ l.length) (hl : c.a.length ≤ 1000) (hwa : c.a.all within = true) (hwv : l.all within = true) :
    Calls Try.prog 44 #[v, vv] w (RetI (sm c.a l) w) := by
  obtain ⟨vx, vy, rfl, h1, h2⟩ := h
  obtain ⟨ck, cx, ca, cc⟩ := c
  simp only at *
  obtain ⟨X, xc, rfl⟩ := h1.form
  obtain ⟨Y, yc, rfl⟩ := h2.form
  obtain ⟨V, vc, rfl⟩ := hv.form
  obtain ⟨R, hR⟩ : ∃ R, R = sm ca l := ⟨_, rfl⟩
  rw [← hR]
  have HR := Lib.hid (show smF (ca.zip l) = R from hR.symm)
  obtain ⟨na, hna⟩ : ∃ n, n = ca.length := ⟨_, rfl⟩
  obtain ⟨nv, hnv⟩ : ∃ n, n = l.length := ⟨_, rfl⟩
  generalize cx.length = nx at *
  rw [← hna] at h2 hn hl ⊢
  rw [← hnv] at hv hn ⊢
  have H2 := Lib.hid h2
  have H3 := Lib.hid hv
  have HNA := Lib.hid hna
  have HNV := Lib.hid hnv
  have HA := Lib.hid (List.all_eq_true.1 hwa)
  have HV := Lib.hid (List.all_eq_true.1 hwv)
  have HN2 := Lib.hid hn
  have ka := Lib.hid (since_alloc w (.cells #[.int .i64 ck, .slice X nx xc, .slice Y na yc, .int .i64 cc] 25))
  have BC := Lib.hid (Bx.fresh w #[.int .i64 ck, .slice X nx xc, .slice Y na yc, .int .i64 cc] 25)
  clear h1 h2 hv hna hnv hR hwa hwv
  go_enter Try.func44, Try.ntmps44
  go_wp2
  go_loopw [5, 6] (fun s i wr => ∃ (j : Nat) (z : Int), i = .int .i64 (j : Int) ∧ s = .int .i64 z ∧ j ≤ na ∧ -1099511627776 * (j : Int) ≤ z ∧ z ≤ 1099511627776 * (j : Int) ∧ Hid (z + smF ((ca.zip l).drop j) = R) ∧ Hid (Since (w.alloc (.cells #[.int .i64 ck, .slice X nx xc, .slice Y na yc, .int .i64 cc] 25)) wr)) (fun _ i _ => na - (intOf i).toNat)
  case atStart => exact ⟨0, 0, rfl, rfl, Nat.zero_le _, by omega, by omega, HR.out ▸ Int.zero_add _, Since.refl _⟩
  case round =>
    obtain ⟨j, z, rfl, rfl, hj, hz1, hz2, HE, HW⟩ := hrel
    obtain ⟨b0, b1, b2, b3⟩ := bx4 (BC.out.since HW.out)
    by_cases hjn : j < na
    · have hja : j < ca.length := by have := HNA.out; omega
      have hjv : j < l.length := by have := HNV.out; have := HN2.out; omega
      have hjv2 : j < nv := by have := HN2.out; omega
      obtain ⟨g, o, rfl, e0⟩ := elI (H2.out.since stI (ka.out.trans HW.out)) hja
      obtain ⟨g2, o2, rfl, e2⟩ := elI (H3.out.since stI (ka.out.trans HW.out)) hjv
      have CA := Lib.hid (fun W (k : Since wr W) => show W.cell? ⟨g, o + j, none⟩ = some (.int .i64 ca[j]) by obtain ⟨g', o', h', e'⟩ := elI (H2.out.since stI (ka.out.trans (HW.out.trans k))) hja; cases h'; exact e')
      have CV := Lib.hid (fun W (k : Since wr W) => show W.cell? ⟨g2, o2 + j, none⟩ = some (.int .i64 l[j]) by obtain ⟨g', o', h', e'⟩ := elI (H3.out.since stI (ka.out.trans (HW.out.trans k))) hjv; cases h'; exact e')
      have hst := HE.out
      rw [zip_at hja hjv, smF] at hst
      simp only at hst
      have hb0 := (within_iff' _).1 (HA.out _ (List.getElem_mem hja))
      have hb1 := (within_iff' _).1 (HV.out _ (List.getElem_mem hjv))
      generalize ca[j] = d at *
      generalize l[j] = s at *
      have hp1 : -1099511627776 ≤ d * s := mul_lo hb0 hb1
      have hp2 : d * s ≤ 1099511627776 := mul_hi hb0 hb1
      have HE2 := Lib.hid (show z + d * s + smF ((ca.zip l).drop (j + 1)) = R by rw [← hst]; omega)
      obtain ⟨hb0, hb0'⟩ := hb0
      obtain ⟨hb1, hb1'⟩ := hb1
      clear hst hja hjv HE
      have HWa := Lib.hid (show IntKind.i64.wrap (d * s) = d * s from wrap_id' (by omega) (by omega))
      have HWb := Lib.hid (show IntKind.i64.wrap (z + d * s) = z + d * s from wrap_id' (by omega) (by omega))
      go_wp2
      have hr0 : Since wr wr.drew := Since.drew (Since.refl wr)
      refine wp_region_noPanic ?_
      refine Reg.wp_region_G (S := fun _ => True) (fun j => [].contains j) (by kernel_rfl) trivial ?_
      refine' Reg.tk (i := 0) (oi := { dst := some 14, op := Op.move (Operand.tmp 5), type := 2, pos := "ref.go:56", after := #[], guard := none }) (v := _) [11, 12] [] (Or.inl ⟨by rfl, Or.inl ?hy2⟩) ?rest2
      case hy2 => (intro w' kk ss; obtain ⟨x0, x1, x2', x3⟩ := bx4 (BC.out.since (HW.out.trans (hr0.trans kk))); have qa := CA.out _ (hr0.trans kk); have qv := CV.out _ (hr0.trans kk); go_simp; first | done | with_reducible rfl)
      try simp only [Act.put, List.setIfInBounds_toArray, List.set_cons_zero, List.set_cons_succ]
      refine' Reg.tk (i := 1) (oi := { dst := some 15, op := Op.fieldAddr 25 (Operand.tmp 2) 2, type := 0, pos := "ref.go:56", after := #[], guard := none }) (v := _) [2, 4, 5, 10, 11, 12] [] (Or.inl ⟨by rfl, Or.inl ?hy3⟩) ?rest3
      case hy3 => (intro w' kk ss; obtain ⟨x0, x1, x2', x3⟩ := bx4 (BC.out.since (HW.out.trans (hr0.trans kk))); have qa := CA.out _ (hr0.trans kk); have qv := CV.out _ (hr0.trans kk); go_simp; first | done | with_reducible rfl)
      try simp only [Act.put, List.setIfInBounds_toArray, List.set_cons_zero, List.set_cons_succ]
      refine' Reg.tk (i := 2) (oi := { dst := some 16, op := Op.load 23 (Operand.tmp 15), type := 23, pos := "ref.go:56", after := #[{ on := 1, ground := Ground.data }], guard := none }) (v := _) [4, 5, 10, 11, 12] [] (Or.inl ⟨by rfl, Or.inl ?hy4⟩) ?rest4
      case hy4 => (intro w' kk ss; obtain ⟨x0, x1, x2', x3⟩ := bx4 (BC.out.since (HW.out.trans (hr0.trans kk))); have qa := CA.out _ (hr0.trans kk); have qv := CV.out _ (hr0.trans kk); go_simp; first | done | with_reducible rfl)
      try simp only [Act.put, List.setIfInBounds_toArray, List.set_cons_zero, List.set_cons_succ]
      refine' Reg.tk (i := 3) (oi := { dst := some 17, op := Op.move (Operand.tmp 6), type := 3, pos := "ref.go:56", after := #[], guard := none }) (v := _) [4, 5, 10, 11, 12] [] (Or.inl ⟨by rfl, Or.inl ?hy5⟩) ?rest5
      case hy5 => (intro w' kk ss; obtain ⟨x0, x1, x2', x3⟩ := bx4 (BC.out.since (HW.out.trans (hr0.trans kk))); have qa := CA.out _ (hr0.trans kk); have qv := CV.out _ (hr0.trans kk); go_simp; first | done | with_reducible rfl)
      try simp only [Act.put, List.setIfInBounds_toArray, List.set_cons_zero, List.set_cons_succ]
      refine' Reg.tk (i := 4) (oi := { dst := some 18, op := Op.indexAddr 23 (Operand.tmp 16) (Operand.tmp 17), type := 0, pos := "ref.go:56", after := #[{ on := 2, ground := Ground.data }, { on := 3, ground := Ground.data }], guard := none }) (v := _) [5, 10, 11, 12] [] (Or.inl ⟨by rfl, Or.inl ?hy6⟩) ?rest6
      case hy6 => (intro w' kk ss; obtain ⟨x0, x1, x2', x3⟩ := bx4 (BC.out.since (HW.out.trans (hr0.trans kk))); have qa := CA.out _ (hr0.trans kk); have qv := CV.out _ (hr0.trans kk); go_simp; first | done | with_reducible rfl)
      try simp only [Act.put, List.setIfInBounds_toArray, List.set_cons_zero, List.set_cons_succ]
      refine' Reg.tk (i := 5) (oi := { dst := some 19, op := Op.load 2 (Operand.tmp 18), type := 2, pos := "ref.go:56", after := #[{ on := 4, ground := Ground.data }], guard := none }) (v := _) [10, 11, 12] [] (Or.inl ⟨by rfl, Or.inl ?hy7⟩) ?rest7
      case hy7 => (intro w' kk ss; obtain ⟨x0, x1, x2', x3⟩ := bx4 (BC.out.since (HW.out.trans (hr0.trans kk))); have qa := CA.out _ (hr0.trans kk); have qv := CV.out _ (hr0.trans kk); go_simp; first | done | with_reducible rfl)
      try simp only [Act.put, List.setIfInBounds_toArray, List.set_cons_zero, List.set_cons_succ]
      refine' Reg.tk (i := 6) (oi := { dst := some 20, op := Op.move (Operand.tmp 1), type := 23, pos := "ref.go:56", after := #[], guard := none }) (v := _) [8, 9, 10, 11, 12] [] (Or.inl ⟨by rfl, Or.inl ?hy8⟩) ?rest8
      case hy8 => (intro w' kk ss; obtain ⟨x0, x1, x2', x3⟩ := bx4 (BC.out.since (HW.out.trans (hr0.trans kk))); have qa := CA.out _ (hr0.trans kk); have qv := CV.out _ (hr0.trans kk); go_simp; first | done | with_reducible rfl)
      try simp only [Act.put, List.setIfInBounds_toArray, List.set_cons_zero, List.set_cons_succ]
      refine' Reg.tk (i := 7) (oi := { dst := some 21, op := Op.move (Operand.tmp 6), type := 3, pos := "ref.go:56", after := #[], guard := none }) (v := _) [8, 9, 10, 11, 12] [] (Or.inl ⟨by rfl, Or.inl ?hy9⟩) ?rest9
      case hy9 => (intro w' kk ss; obtain ⟨x0, x1, x2', x3⟩ := bx4 (BC.out.since (HW.out.trans (hr0.trans kk))); have qa := CA.out _ (hr0.trans kk); have qv := CV.out _ (hr0.trans kk); go_simp; first | done | with_reducible rfl)
      try simp only [Act.put, List.setIfInBounds_toArray, List.set_cons_zero, List.set_cons_succ]
      refine' Reg.tk (i := 8) (oi := { dst := some 22, op := Op.indexAddr 23 (Operand.tmp 20) (Operand.tmp 21), type := 0, pos := "ref.go:56", after := #[{ on := 6, ground := Ground.data }, { on := 7, ground := Ground.data }], guard := none }) (v := _) [9, 10, 11, 12] [] (Or.inl ⟨by rfl, Or.inl ?hy10⟩) ?rest10
      case hy10 => (intro w' kk ss; obtain ⟨x0, x1, x2', x3⟩ := bx4 (BC.out.since (HW.out.trans (hr0.trans kk))); have qa := CA.out _ (hr0.trans kk); have qv := CV.out _ (hr0.trans kk); go_simp; first | done | with_reducible rfl)
      try simp only [Act.put, List.setIfInBounds_toArray, List.set_cons_zero, List.set_cons_succ]
      refine' Reg.tk (i := 9) (oi := { dst := some 23, op := Op.load 2 (Operand.tmp 22), type := 2, pos := "ref.go:56", after := #[{ on := 8, ground := Ground.data }], guard := none }) (v := _) [10, 11, 12] [] (Or.inl ⟨by rfl, Or.inl ?hy11⟩) ?rest11
      case hy11 => (intro w' kk ss; obtain ⟨x0, x1, x2', x3⟩ := bx4 (BC.out.since (HW.out.trans (hr0.trans kk))); have qa := CA.out _ (hr0.trans kk); have qv := CV.out _ (hr0.trans kk); go_simp; first | done | with_reducible rfl)
      try simp only [Act.put, List.setIfInBounds_toArray, List.set_cons_zero, List.set_cons_succ]
      refine' Reg.tk (i := 10) (oi := { dst := some 24, op := Op.binOp BinOp.mul 2 (Operand.tmp 19) (Operand.tmp 23) 2, type := 2, pos := "ref.go:56", after := #[{ on := 5, ground := Ground.data }, { on := 9, ground := Ground.data }], guard := none }) (v := _) [11, 12] [] (Or.inl ⟨by rfl, Or.inl ?hy12⟩) ?rest12
      case hy12 => (intro w' kk ss; obtain ⟨x0, x1, x2', x3⟩ := bx4 (BC.out.since (HW.out.trans (hr0.trans kk))); have qa := CA.out _ (hr0.trans kk); have qv := CV.out _ (hr0.trans kk); go_simp; first | done | with_reducible rfl)
      try simp only [Act.put, List.setIfInBounds_toArray, List.set_cons_zero, List.set_cons_succ]
      refine' Reg.tk (i := 11) (oi := { dst := some 25, op := Op.binOp BinOp.add 2 (Operand.tmp 14) (Operand.tmp 24) 2, type := 2, pos := "ref.go:56", after := #[{ on := 0, ground := Ground.data }, { on := 10, ground := Ground.data }], guard := none }) (v := _) [12] [] (Or.inl ⟨by rfl, Or.inl ?hy13⟩) ?rest13
      case hy13 => (intro w' kk ss; obtain ⟨x0, x1, x2', x3⟩ := bx4 (BC.out.since (HW.out.trans (hr0.trans kk))); have qa := CA.out _ (hr0.trans kk); have qv := CV.out _ (hr0.trans kk); go_simp; first | done | with_reducible rfl)
      try simp only [Act.put, List.setIfInBounds_toArray, List.set_cons_zero, List.set_cons_succ]
      refine' Reg.tk (i := 12) (oi := { dst := some 5, op := Op.assign (Operand.tmp 25), type := 2, pos := "ref.go:56", after := #[{ on := 11, ground := Ground.data }, { on := 0, ground := Ground.phase }, { on := 1, ground := Ground.phase }, { on := 2, ground := Ground.phase }, { on := 3, ground := Ground.phase }, { on := 4, ground := Ground.phase }, { on := 5, ground := Ground.phase }, { on := 6, ground := Ground.phase }, { on := 7, ground := Ground.phase }, { on := 8, ground := Ground.phase }, { on := 9, ground := Ground.phase }, { on := 10, ground := Ground.phase }, { on := 11, ground := Ground.phase }], guard := none }) (v := _) [] [] (Or.inl ⟨by rfl, Or.inl ?hy14⟩) ?rest14
      case hy14 => (intro w' kk ss; obtain ⟨x0, x1, x2', x3⟩ := bx4 (BC.out.since (HW.out.trans (hr0.trans kk))); have qa := CA.out _ (hr0.trans kk); have qv := CV.out _ (hr0.trans kk); go_simp; first | done | with_reducible rfl)
      try simp only [Act.put, List.setIfInBounds_toArray, List.set_cons_zero, List.set_cons_succ]
      refine Reg.wpG_done (by kernel_rfl) (fun we ke se => ?_) _
      refine NoPanic.normal ?_
      have hr0 := hr0.trans ke
      clear ke
      simp only [HWa.out, HWb.out]
      go_wp2
      go_roundw
      case rel => exact ⟨j + 1, z + d * s, by go_num, by go_num, by omega, by omega, by omega, HE2.out, HW.out.trans hr0⟩
      case measure => simp [intOf]; omega
    · obtain rfl : na = j := by omega
      have HE2 := Lib.hid (show z = R by rw [← HE.out, List.drop_of_length_le (by rw [List.length_zip]; have := HNA.out; omega)]; simp [smF])
      go_wp2
      go_ret
      exact RetI.of HE2.out (ka.out.trans HW.out)
end Go.Proofs.Ytoegbgkgenjplaa.Sn
