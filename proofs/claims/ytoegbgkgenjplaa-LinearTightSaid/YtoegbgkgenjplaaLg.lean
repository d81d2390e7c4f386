/- Layer 12 (linear): the landed cut, atMost. -/
import Derived.Test.YtoegbgkgenjplaaLc
import Derived.Test.YtoegbgkgenjplaaQal
namespace Go.Proofs.Ytoegbgkgenjplaa.Ln
open Go.RowKit
set_option linter.unusedVariables false
set_option linter.unusedSimpArgs false
open Go.Proofs.Ytoegbgkgenjplaa.Dig Go.Proofs.Ytoegbgkgenjplaa.Lx Go.Proofs.Ytoegbgkgenjplaa.Tk Go.Proofs.Ytoegbgkgenjplaa.Ti Go.Proofs.Ytoegbgkgenjplaa.Zs Go.Proofs.Ytoegbgkgenjplaa.Tr Go.Proofs.Ytoegbgkgenjplaa.Sn
theorem quo_le {r n : Int} (hr : 0 ≤ r) (hn : 0 < n) : r.tdiv n = r / n ∧ 0 ≤ r / n ∧ r / n ≤ r := ⟨Int.tdiv_eq_ediv_of_nonneg hr, Int.ediv_nonneg hr (by omega), Int.ediv_le_self n hr⟩
theorem cut_at {B : Option Addr} {m cB : Nat} {d : List Rn} {w : World} (hS : Sl 2 QR w (.slice B m cB) d) (hr : right d = true) (W : World) (k : Since w W) (a b a' b' : Int) (ha : a' = a) (hb : b' = b) :
    Calls Try.prog 133 #[.slice B m cB, .int .i64 a', .int .i64 b'] W (fun e w' => ∃ A2 m2 c2, e = .returned (.slice A2 m2 c2) ∧ (cut d a b).length = m2 ∧ NewR w w' (.slice A2 m2 c2) (cut d a b) ∧ Since W w') := by
  subst ha hb
  exact (cut_new _ d a' b' W (hS.since stR k) (right_len hr) (okF_bd hr (Int.le_refl _))).mono fun _ _ h => by
    obtain ⟨A, m, c, h1, h2, h3, h4⟩ := newR_of h
    exact ⟨A, m, c, h1, h2, ⟨h3.1, fun b hb => ⟨Nat.le_trans k.size (h3.2 b hb).1, (h3.2 b hb).2⟩⟩, h4⟩
set_option maxRecDepth 20000 in
set_option maxHeartbeats 3000000 in
theorem cut_any (t : Tm) (r : Int) (g n : Nat) (D : Ds) (w0 w : World) (h : DAt g n w0 w D) (hg : w0.heap.size ≤ g ∧ g < w.heap.size) (hr : 0 ≤ r ∧ r ≤ 1125899906842624) (hb : Bt t) (hx : ∃ j : Nat, t.x = (j : Int) ∧ j < n) (hR : Rd D) :
    Calls Try.prog 98 #[.agg #[.int .i64 t.n, .int .i64 t.lo, .int .i64 t.hi, .int .i64 t.x], .int .i64 r, .slice (some ⟨g, 0, none⟩) n n] w (fun e w' => e = .returned (.tuple #[]) ∧ DAt g n w0 w' (cutT r t D) ∧ Og g w w') := by
  obtain ⟨tn, tl, th, tx⟩ := t
  obtain ⟨j, hj, hjn⟩ := hx
  simp only [Bt] at hj hb
  simp only
  subst hj
  obtain ⟨⟨b1, b2⟩, ⟨b3, b4⟩, ⟨b5, b6⟩, b7⟩ := hb
  obtain ⟨hr1, hr2⟩ := hr
  have hjl : j < D.length := by rw [h.len]; exact hjn
  have hdm : domAt D (j : Int) = D[j] := by simp [domAt, hjl]
  have hrd : right D[j] = true := hR _ (List.getElem_mem hjl)
  obtain ⟨A, c, e0, hS⟩ := h.get hjl
  have HH := Lib.hid h
  have HG := Lib.hid hg
  have hfz : w.frozen? ⟨g, j, none⟩ = false := h.no hjn
  have ka := Lib.hid (since_alloc w (.cells #[.int .i64 tn, .int .i64 tl, .int .i64 th, .int .i64 (j : Int)] 91))
  have BC := Lib.hid (Bx.fresh w #[.int .i64 tn, .int .i64 tl, .int .i64 th, .int .i64 (j : Int)] 91)
  have CC := Lib.hid (fun W (k : Since (w.alloc (.cells #[.int .i64 tn, .int .i64 tl, .int .i64 th, .int .i64 (j : Int)] 91)) W) => show W.cell? ⟨g, j, none⟩ = some (.slice A D[j].length c) from ((ka.out.trans k).cell _ (World.block_lt_of_cell? _ _ e0)).trans e0)
  have FZ := Lib.hid (fun W (k : Since (w.alloc (.cells #[.int .i64 tn, .int .i64 tl, .int .i64 th, .int .i64 (j : Int)] 91)) W) => (HH.out.since (ka.out.trans k)).no hjn)
  have PT := Lib.hid (fun W u d (k : Since (w.alloc (.cells #[.int .i64 tn, .int .i64 tl, .int .i64 th, .int .i64 (j : Int)] 91)) W) (hu : NewR w W u d) => HH.out.put2 (ka.out.trans k) hjn hu (Nat.le_of_lt (Nat.lt_of_le_of_lt HG.out.1 HG.out.2)) HG.out.2)
  have CU := Lib.hid (fun W (k : Since (w.alloc (.cells #[.int .i64 tn, .int .i64 tl, .int .i64 th, .int .i64 (j : Int)] 91)) W) a b a' b' ha hb => cut_at hS hrd W (ka.out.trans k) a b a' b' ha hb)
  by_cases c1 : 0 < tn
  · have E := Lib.hid (show cutT r ⟨tn, tl, th, (j : Int)⟩ D = D.set j (cut D[j] tl (tl + r / tn)) by simp only [cutT]; rw [if_pos c1, hdm]; rfl)
    obtain ⟨q1, q2, q3⟩ := quo_le hr1 c1
    have WE := Lib.hid (show IntKind.i64.wrap (tl + IntKind.i64.wrap (r / tn)) = tl + r / tn by rw [wrap_id' (x := r / tn) (by omega) (by omega), wrap_id' (by omega) (by omega)])
    have hne : tn ≠ 0 := by omega
    have hng : ¬ tn < 0 := by omega
    clear h hS e0 hfz hR hrd hdm
    rw [E.out]
    generalize D[j] = d at *
    generalize D[j].length = dl at *
    go_enter Try.func98, Try.ntmps98
    obtain ⟨r0, r1, r2, r3⟩ := bx4 BC.out
    go_wp2
    have hr0 : Since (w.alloc (.cells #[.int .i64 tn, .int .i64 tl, .int .i64 th, .int .i64 (j : Int)] 91)) (w.alloc (.cells #[.int .i64 tn, .int .i64 tl, .int .i64 th, .int .i64 (j : Int)] 91)).drew := Since.drew (Since.refl (w.alloc (.cells #[.int .i64 tn, .int .i64 tl, .int .i64 th, .int .i64 (j : Int)] 91)))
    refine wp_region_noPanic ?_
    refine Reg.wp_region_G (S := fun _ => True) (fun j => [19].contains j) (by kernel_rfl) trivial ?_
    refine' Reg.tk (i := 0) (oi := { dst := some 10, op := Op.move (Operand.tmp 2), type := 30, pos := "bound.go:31", after := #[], guard := none }) (v := _) [18, 19] [19] (Or.inl ⟨by rfl, Or.inl ?hy2⟩) ?rest2
    case hy2 => (intro w' kk ss; obtain ⟨x0, x1, x2', x3⟩ := bx4 (BC.out.since (hr0.trans kk)); have y0 := CC.out _ (hr0.trans kk); go_simp; first | done | with_reducible rfl)
    try simp only [Act.put, List.setIfInBounds_toArray, List.set_cons_zero, List.set_cons_succ]
    refine' Reg.tk (i := 1) (oi := { dst := some 11, op := Op.fieldAddr 91 (Operand.tmp 3) 3, type := 0, pos := "bound.go:31", after := #[], guard := none }) (v := _) [2, 18, 19] [19] (Or.inl ⟨by rfl, Or.inl ?hy3⟩) ?rest3
    case hy3 => (intro w' kk ss; obtain ⟨x0, x1, x2', x3⟩ := bx4 (BC.out.since (hr0.trans kk)); have y0 := CC.out _ (hr0.trans kk); go_simp; first | done | with_reducible rfl)
    try simp only [Act.put, List.setIfInBounds_toArray, List.set_cons_zero, List.set_cons_succ]
    refine' Reg.tk (i := 2) (oi := { dst := some 12, op := Op.load 3 (Operand.tmp 11), type := 3, pos := "bound.go:31", after := #[{ on := 1, ground := Ground.data }], guard := none }) (v := _) [18, 19] [19] (Or.inl ⟨by rfl, Or.inl ?hy4⟩) ?rest4
    case hy4 => (intro w' kk ss; obtain ⟨x0, x1, x2', x3⟩ := bx4 (BC.out.since (hr0.trans kk)); have y0 := CC.out _ (hr0.trans kk); go_simp; first | done | with_reducible rfl)
    try simp only [Act.put, List.setIfInBounds_toArray, List.set_cons_zero, List.set_cons_succ]
    refine' Reg.tk (i := 3) (oi := { dst := some 13, op := Op.move (Operand.tmp 2), type := 30, pos := "bound.go:31", after := #[], guard := none }) (v := _) [6, 7, 17, 18, 19] [19] (Or.inl ⟨by rfl, Or.inl ?hy5⟩) ?rest5
    case hy5 => (intro w' kk ss; obtain ⟨x0, x1, x2', x3⟩ := bx4 (BC.out.since (hr0.trans kk)); have y0 := CC.out _ (hr0.trans kk); go_simp; first | done | with_reducible rfl)
    try simp only [Act.put, List.setIfInBounds_toArray, List.set_cons_zero, List.set_cons_succ]
    refine' Reg.tk (i := 4) (oi := { dst := some 14, op := Op.fieldAddr 91 (Operand.tmp 3) 3, type := 0, pos := "bound.go:31", after := #[], guard := none }) (v := _) [5, 6, 7, 17, 18, 19] [19] (Or.inl ⟨by rfl, Or.inl ?hy6⟩) ?rest6
    case hy6 => (intro w' kk ss; obtain ⟨x0, x1, x2', x3⟩ := bx4 (BC.out.since (hr0.trans kk)); have y0 := CC.out _ (hr0.trans kk); go_simp; first | done | with_reducible rfl)
    try simp only [Act.put, List.setIfInBounds_toArray, List.set_cons_zero, List.set_cons_succ]
    refine' Reg.tk (i := 5) (oi := { dst := some 15, op := Op.load 3 (Operand.tmp 14), type := 3, pos := "bound.go:31", after := #[{ on := 4, ground := Ground.data }], guard := none }) (v := _) [6, 7, 17, 18, 19] [19] (Or.inl ⟨by rfl, Or.inl ?hy7⟩) ?rest7
    case hy7 => (intro w' kk ss; obtain ⟨x0, x1, x2', x3⟩ := bx4 (BC.out.since (hr0.trans kk)); have y0 := CC.out _ (hr0.trans kk); go_simp; first | done | with_reducible rfl)
    try simp only [Act.put, List.setIfInBounds_toArray, List.set_cons_zero, List.set_cons_succ]
    refine' Reg.tk (i := 6) (oi := { dst := some 16, op := Op.indexAddr 30 (Operand.tmp 13) (Operand.tmp 15), type := 0, pos := "bound.go:31", after := #[{ on := 3, ground := Ground.data }, { on := 5, ground := Ground.data }], guard := none }) (v := _) [7, 17, 18, 19] [19] (Or.inl ⟨by rfl, Or.inl ?hy8⟩) ?rest8
    case hy8 => (intro w' kk ss; obtain ⟨x0, x1, x2', x3⟩ := bx4 (BC.out.since (hr0.trans kk)); have y0 := CC.out _ (hr0.trans kk); go_simp; first | done | with_reducible rfl)
    try simp only [Act.put, List.setIfInBounds_toArray, List.set_cons_zero, List.set_cons_succ]
    refine' Reg.tk (i := 7) (oi := { dst := some 17, op := Op.load 50 (Operand.tmp 16), type := 50, pos := "bound.go:31", after := #[{ on := 6, ground := Ground.data }], guard := none }) (v := _) [17, 18, 19] [19] (Or.inl ⟨by rfl, Or.inl ?hy9⟩) ?rest9
    case hy9 => (intro w' kk ss; obtain ⟨x0, x1, x2', x3⟩ := bx4 (BC.out.since (hr0.trans kk)); have y0 := CC.out _ (hr0.trans kk); go_simp; first | done | with_reducible rfl)
    try simp only [Act.put, List.setIfInBounds_toArray, List.set_cons_zero, List.set_cons_succ]
    refine' Reg.tk (i := 8) (oi := { dst := some 18, op := Op.fieldAddr 91 (Operand.tmp 3) 1, type := 0, pos := "bound.go:31", after := #[], guard := none }) (v := _) [9, 17, 18, 19] [19] (Or.inl ⟨by rfl, Or.inl ?hy10⟩) ?rest10
    case hy10 => (intro w' kk ss; obtain ⟨x0, x1, x2', x3⟩ := bx4 (BC.out.since (hr0.trans kk)); have y0 := CC.out _ (hr0.trans kk); go_simp; first | done | with_reducible rfl)
    try simp only [Act.put, List.setIfInBounds_toArray, List.set_cons_zero, List.set_cons_succ]
    refine' Reg.tk (i := 9) (oi := { dst := some 19, op := Op.load 2 (Operand.tmp 18), type := 2, pos := "bound.go:31", after := #[{ on := 8, ground := Ground.data }], guard := none }) (v := _) [17, 18, 19] [19] (Or.inl ⟨by rfl, Or.inl ?hy11⟩) ?rest11
    case hy11 => (intro w' kk ss; obtain ⟨x0, x1, x2', x3⟩ := bx4 (BC.out.since (hr0.trans kk)); have y0 := CC.out _ (hr0.trans kk); go_simp; first | done | with_reducible rfl)
    try simp only [Act.put, List.setIfInBounds_toArray, List.set_cons_zero, List.set_cons_succ]
    refine' Reg.tk (i := 10) (oi := { dst := some 20, op := Op.fieldAddr 91 (Operand.tmp 3) 1, type := 0, pos := "bound.go:31", after := #[], guard := none }) (v := _) [11, 16, 17, 18, 19] [19] (Or.inl ⟨by rfl, Or.inl ?hy12⟩) ?rest12
    case hy12 => (intro w' kk ss; obtain ⟨x0, x1, x2', x3⟩ := bx4 (BC.out.since (hr0.trans kk)); have y0 := CC.out _ (hr0.trans kk); go_simp; first | done | with_reducible rfl)
    try simp only [Act.put, List.setIfInBounds_toArray, List.set_cons_zero, List.set_cons_succ]
    refine' Reg.tk (i := 11) (oi := { dst := some 21, op := Op.load 2 (Operand.tmp 20), type := 2, pos := "bound.go:31", after := #[{ on := 10, ground := Ground.data }], guard := none }) (v := _) [16, 17, 18, 19] [19] (Or.inl ⟨by rfl, Or.inl ?hy13⟩) ?rest13
    case hy13 => (intro w' kk ss; obtain ⟨x0, x1, x2', x3⟩ := bx4 (BC.out.since (hr0.trans kk)); have y0 := CC.out _ (hr0.trans kk); go_simp; first | done | with_reducible rfl)
    try simp only [Act.put, List.setIfInBounds_toArray, List.set_cons_zero, List.set_cons_succ]
    refine' Reg.tk (i := 12) (oi := { dst := some 22, op := Op.move (Operand.tmp 1), type := 2, pos := "bound.go:31", after := #[], guard := none }) (v := _) [15, 16, 17, 18, 19] [19] (Or.inl ⟨by rfl, Or.inl ?hy14⟩) ?rest14
    case hy14 => (intro w' kk ss; obtain ⟨x0, x1, x2', x3⟩ := bx4 (BC.out.since (hr0.trans kk)); have y0 := CC.out _ (hr0.trans kk); go_simp; first | done | with_reducible rfl)
    try simp only [Act.put, List.setIfInBounds_toArray, List.set_cons_zero, List.set_cons_succ]
    refine' Reg.tk (i := 13) (oi := { dst := some 23, op := Op.fieldAddr 91 (Operand.tmp 3) 0, type := 0, pos := "bound.go:31", after := #[], guard := none }) (v := _) [14, 15, 16, 17, 18, 19] [19] (Or.inl ⟨by rfl, Or.inl ?hy15⟩) ?rest15
    case hy15 => (intro w' kk ss; obtain ⟨x0, x1, x2', x3⟩ := bx4 (BC.out.since (hr0.trans kk)); have y0 := CC.out _ (hr0.trans kk); go_simp; first | done | with_reducible rfl)
    try simp only [Act.put, List.setIfInBounds_toArray, List.set_cons_zero, List.set_cons_succ]
    refine' Reg.tk (i := 14) (oi := { dst := some 24, op := Op.load 2 (Operand.tmp 23), type := 2, pos := "bound.go:31", after := #[{ on := 13, ground := Ground.data }], guard := none }) (v := _) [15, 16, 17, 18, 19] [19] (Or.inl ⟨by rfl, Or.inl ?hy16⟩) ?rest16
    case hy16 => (intro w' kk ss; obtain ⟨x0, x1, x2', x3⟩ := bx4 (BC.out.since (hr0.trans kk)); have y0 := CC.out _ (hr0.trans kk); go_simp; first | done | with_reducible rfl)
    try simp only [Act.put, List.setIfInBounds_toArray, List.set_cons_zero, List.set_cons_succ]
    refine' Reg.tk (i := 15) (oi := { dst := some 25, op := Op.binOp BinOp.quo 2 (Operand.tmp 22) (Operand.tmp 24) 2, type := 2, pos := "bound.go:31", after := #[{ on := 12, ground := Ground.data }, { on := 14, ground := Ground.data }], guard := none }) (v := _) [16, 17, 18, 19] [19] (Or.inl ⟨by rfl, Or.inl ?hy17⟩) ?rest17
    case hy17 => (intro w' kk ss; obtain ⟨x0, x1, x2', x3⟩ := bx4 (BC.out.since (hr0.trans kk)); have y0 := CC.out _ (hr0.trans kk); go_simp; first | done | with_reducible rfl)
    try simp only [Act.put, List.setIfInBounds_toArray, List.set_cons_zero, List.set_cons_succ]
    refine' Reg.tk (i := 16) (oi := { dst := some 26, op := Op.binOp BinOp.add 2 (Operand.tmp 21) (Operand.tmp 25) 2, type := 2, pos := "bound.go:31", after := #[{ on := 11, ground := Ground.data }, { on := 15, ground := Ground.data }], guard := none }) (v := _) [17, 18, 19] [19] (Or.inl ⟨by rfl, Or.inl ?hy18⟩) ?rest18
    case hy18 => (intro w' kk ss; obtain ⟨x0, x1, x2', x3⟩ := bx4 (BC.out.since (hr0.trans kk)); have y0 := CC.out _ (hr0.trans kk); go_simp; first | done | with_reducible rfl)
    try simp only [Act.put, List.setIfInBounds_toArray, List.set_cons_zero, List.set_cons_succ]
    refine Reg.wpG_ready (rs := [17]) (by kernel_rfl) (by simp) (fun wq1001 k1001' sq1001 => ?_)
    have hr0 := hr0.trans k1001'
    refine Reg.AllG.first (o := { dst := some 27, op := Op.call { callee := Callee.value (Operand.func 133), args := #[Operand.tmp 17, Operand.tmp 19, Operand.tmp 26], argTypes := #[50, 2, 2] }, type := 50, pos := "bound.go:31", after := #[{ on := 7, ground := Ground.data }, { on := 9, ground := Ground.data }, { on := 16, ground := Ground.data }], guard := none }) rfl (by rfl) (fun K hK => ?_) Reg.AllG.nil
    go_simp
    (with_reducible refine (CU.out wq1001 hr0 (tl) (tl + r / tn) _ _ rfl WE.out).mono ?_)
    rintro e y1001 ⟨A2, m2, c2, rfl, hm2, q1, hx⟩
    refine hK.out _ _ trivial hx ?_
    clear hK K
    have hr0 := hr0.trans hx
    clear hx
    try simp only [Act.put, List.setIfInBounds_toArray, List.set_cons_zero, List.set_cons_succ]
    refine' Reg.tk (i := 18) (oi := { dst := some 28, op := Op.indexAddr 30 (Operand.tmp 10) (Operand.tmp 12), type := 0, pos := "bound.go:31", after := #[{ on := 0, ground := Ground.data }, { on := 2, ground := Ground.data }, { on := 0, ground := Ground.phase }, { on := 1, ground := Ground.phase }, { on := 2, ground := Ground.phase }, { on := 3, ground := Ground.phase }, { on := 4, ground := Ground.phase }, { on := 5, ground := Ground.phase }, { on := 6, ground := Ground.phase }, { on := 7, ground := Ground.phase }, { on := 8, ground := Ground.phase }, { on := 9, ground := Ground.phase }, { on := 10, ground := Ground.phase }, { on := 11, ground := Ground.phase }, { on := 12, ground := Ground.phase }, { on := 13, ground := Ground.phase }, { on := 14, ground := Ground.phase }, { on := 15, ground := Ground.phase }, { on := 16, ground := Ground.phase }, { on := 17, ground := Ground.phase }], guard := none }) (v := _) [19] [19] (Or.inl ⟨by rfl, Or.inl ?hy19⟩) ?rest19
    case hy19 => (intro w' kk ss; obtain ⟨x0, x1, x2', x3⟩ := bx4 (BC.out.since (hr0.trans kk)); have y0 := CC.out _ (hr0.trans kk); go_simp; first | done | with_reducible rfl)
    try simp only [Act.put, List.setIfInBounds_toArray, List.set_cons_zero, List.set_cons_succ]
    refine Reg.wpG_ready (rs := [19]) (by kernel_rfl) (by simp) (fun wq k1002' sq => ?_)
    have hr0 := hr0.trans k1002'
    have q1 := q1.since k1002'
    refine Reg.AllG.last (o := { dst := none, op := Op.store 50 (Operand.tmp 28) (Operand.tmp 27), type := 0, pos := "bound.go:31", after := #[{ on := 18, ground := Ground.data }, { on := 17, ground := Ground.data }, { on := 17, ground := Ground.chain }, { on := 0, ground := Ground.phase }, { on := 1, ground := Ground.phase }, { on := 2, ground := Ground.phase }, { on := 3, ground := Ground.phase }, { on := 4, ground := Ground.phase }, { on := 5, ground := Ground.phase }, { on := 6, ground := Ground.phase }, { on := 7, ground := Ground.phase }, { on := 8, ground := Ground.phase }, { on := 9, ground := Ground.phase }, { on := 10, ground := Ground.phase }, { on := 11, ground := Ground.phase }, { on := 12, ground := Ground.phase }, { on := 13, ground := Ground.phase }, { on := 14, ground := Ground.phase }, { on := 15, ground := Ground.phase }, { on := 16, ground := Ground.phase }, { on := 17, ground := Ground.phase }], guard := none }) rfl (by rfl) (fun K hK => ?_) Reg.AllG.nil
    have PU := PT.out _ _ _ hr0 q1
    have z0 := CC.out _ hr0
    have zf := FZ.out _ hr0
    obtain ⟨x0, x1, x2', x3⟩ := bx4 (BC.out.since hr0)
    go_simp
    refine hK.out _ _ trivial (fun hHeld => ?_)
    clear hK K
    try simp only [Act.put, List.setIfInBounds_toArray, List.set_cons_zero, List.set_cons_succ]
    refine wpAnyH_done (by kernel_rfl) ?_ _
    refine NoPanic.normal ?_
    go_wp2
    refine bodyPost_end (results_none rfl _ _ _) rfl ?_
    exact ⟨rfl, PU, Og.put (Turn.of (ka.out.trans hr0) _) j _⟩
  · by_cases c2 : tn < 0
    · have E := Lib.hid (show cutT r ⟨tn, tl, th, (j : Int)⟩ D = D.set j (cut D[j] (th - r / (-tn)) th) by simp only [cutT]; rw [if_neg c1, if_pos c2, hdm]; rfl)
      obtain ⟨q, hq⟩ : ∃ q, q = -tn := ⟨_, rfl⟩
      rw [← hq] at E
      obtain ⟨q1, q2, q3⟩ := quo_le hr1 (show 0 < q by omega)
      have WN : IntKind.i64.wrap (-tn) = q := by rw [hq]; exact wrap_id' (by omega) (by omega)
      have WE := Lib.hid (show IntKind.i64.wrap (th - IntKind.i64.wrap (r / q)) = th - r / q by rw [wrap_id' (x := r / q) (by omega) (by omega), wrap_id' (by omega) (by omega)])
      have hne : q ≠ 0 := by omega
      clear hq
      clear h hS e0 hfz hR hrd hdm
      rw [E.out]
      generalize D[j] = d at *
      go_enter Try.func98, Try.ntmps98
      obtain ⟨r0, r1, r2, r3⟩ := bx4 BC.out
      go_wp2
      have hr0 : Since (w.alloc (.cells #[.int .i64 tn, .int .i64 tl, .int .i64 th, .int .i64 (j : Int)] 91)) (w.alloc (.cells #[.int .i64 tn, .int .i64 tl, .int .i64 th, .int .i64 (j : Int)] 91)).drew := Since.drew (Since.refl (w.alloc (.cells #[.int .i64 tn, .int .i64 tl, .int .i64 th, .int .i64 (j : Int)] 91)))
      refine wp_region_noPanic ?_
      refine Reg.wp_region_G (S := fun _ => True) (fun j => [20].contains j) (by kernel_rfl) trivial ?_
      refine' Reg.tk (i := 0) (oi := { dst := some 33, op := Op.move (Operand.tmp 2), type := 30, pos := "bound.go:33", after := #[], guard := none }) (v := _) [19, 20] [20] (Or.inl ⟨by rfl, Or.inl ?hy21⟩) ?rest21
      case hy21 => (intro w' kk ss; obtain ⟨x0, x1, x2', x3⟩ := bx4 (BC.out.since (hr0.trans kk)); have y0 := CC.out _ (hr0.trans kk); go_simp; first | done | with_reducible rfl)
      try simp only [Act.put, List.setIfInBounds_toArray, List.set_cons_zero, List.set_cons_succ]
      refine' Reg.tk (i := 1) (oi := { dst := some 34, op := Op.fieldAddr 91 (Operand.tmp 3) 3, type := 0, pos := "bound.go:33", after := #[], guard := none }) (v := _) [2, 19, 20] [20] (Or.inl ⟨by rfl, Or.inl ?hy22⟩) ?rest22
      case hy22 => (intro w' kk ss; obtain ⟨x0, x1, x2', x3⟩ := bx4 (BC.out.since (hr0.trans kk)); have y0 := CC.out _ (hr0.trans kk); go_simp; first | done | with_reducible rfl)
      try simp only [Act.put, List.setIfInBounds_toArray, List.set_cons_zero, List.set_cons_succ]
      refine' Reg.tk (i := 2) (oi := { dst := some 35, op := Op.load 3 (Operand.tmp 34), type := 3, pos := "bound.go:33", after := #[{ on := 1, ground := Ground.data }], guard := none }) (v := _) [19, 20] [20] (Or.inl ⟨by rfl, Or.inl ?hy23⟩) ?rest23
      case hy23 => (intro w' kk ss; obtain ⟨x0, x1, x2', x3⟩ := bx4 (BC.out.since (hr0.trans kk)); have y0 := CC.out _ (hr0.trans kk); go_simp; first | done | with_reducible rfl)
      try simp only [Act.put, List.setIfInBounds_toArray, List.set_cons_zero, List.set_cons_succ]
      refine' Reg.tk (i := 3) (oi := { dst := some 36, op := Op.move (Operand.tmp 2), type := 30, pos := "bound.go:33", after := #[], guard := none }) (v := _) [6, 7, 18, 19, 20] [20] (Or.inl ⟨by rfl, Or.inl ?hy24⟩) ?rest24
      case hy24 => (intro w' kk ss; obtain ⟨x0, x1, x2', x3⟩ := bx4 (BC.out.since (hr0.trans kk)); have y0 := CC.out _ (hr0.trans kk); go_simp; first | done | with_reducible rfl)
      try simp only [Act.put, List.setIfInBounds_toArray, List.set_cons_zero, List.set_cons_succ]
      refine' Reg.tk (i := 4) (oi := { dst := some 37, op := Op.fieldAddr 91 (Operand.tmp 3) 3, type := 0, pos := "bound.go:33", after := #[], guard := none }) (v := _) [5, 6, 7, 18, 19, 20] [20] (Or.inl ⟨by rfl, Or.inl ?hy25⟩) ?rest25
      case hy25 => (intro w' kk ss; obtain ⟨x0, x1, x2', x3⟩ := bx4 (BC.out.since (hr0.trans kk)); have y0 := CC.out _ (hr0.trans kk); go_simp; first | done | with_reducible rfl)
      try simp only [Act.put, List.setIfInBounds_toArray, List.set_cons_zero, List.set_cons_succ]
      refine' Reg.tk (i := 5) (oi := { dst := some 38, op := Op.load 3 (Operand.tmp 37), type := 3, pos := "bound.go:33", after := #[{ on := 4, ground := Ground.data }], guard := none }) (v := _) [6, 7, 18, 19, 20] [20] (Or.inl ⟨by rfl, Or.inl ?hy26⟩) ?rest26
      case hy26 => (intro w' kk ss; obtain ⟨x0, x1, x2', x3⟩ := bx4 (BC.out.since (hr0.trans kk)); have y0 := CC.out _ (hr0.trans kk); go_simp; first | done | with_reducible rfl)
      try simp only [Act.put, List.setIfInBounds_toArray, List.set_cons_zero, List.set_cons_succ]
      refine' Reg.tk (i := 6) (oi := { dst := some 39, op := Op.indexAddr 30 (Operand.tmp 36) (Operand.tmp 38), type := 0, pos := "bound.go:33", after := #[{ on := 3, ground := Ground.data }, { on := 5, ground := Ground.data }], guard := none }) (v := _) [7, 18, 19, 20] [20] (Or.inl ⟨by rfl, Or.inl ?hy27⟩) ?rest27
      case hy27 => (intro w' kk ss; obtain ⟨x0, x1, x2', x3⟩ := bx4 (BC.out.since (hr0.trans kk)); have y0 := CC.out _ (hr0.trans kk); go_simp; first | done | with_reducible rfl)
      try simp only [Act.put, List.setIfInBounds_toArray, List.set_cons_zero, List.set_cons_succ]
      refine' Reg.tk (i := 7) (oi := { dst := some 40, op := Op.load 50 (Operand.tmp 39), type := 50, pos := "bound.go:33", after := #[{ on := 6, ground := Ground.data }], guard := none }) (v := _) [18, 19, 20] [20] (Or.inl ⟨by rfl, Or.inl ?hy28⟩) ?rest28
      case hy28 => (intro w' kk ss; obtain ⟨x0, x1, x2', x3⟩ := bx4 (BC.out.since (hr0.trans kk)); have y0 := CC.out _ (hr0.trans kk); go_simp; first | done | with_reducible rfl)
      try simp only [Act.put, List.setIfInBounds_toArray, List.set_cons_zero, List.set_cons_succ]
      refine' Reg.tk (i := 8) (oi := { dst := some 41, op := Op.fieldAddr 91 (Operand.tmp 3) 2, type := 0, pos := "bound.go:33", after := #[], guard := none }) (v := _) [9, 15, 18, 19, 20] [20] (Or.inl ⟨by rfl, Or.inl ?hy29⟩) ?rest29
      case hy29 => (intro w' kk ss; obtain ⟨x0, x1, x2', x3⟩ := bx4 (BC.out.since (hr0.trans kk)); have y0 := CC.out _ (hr0.trans kk); go_simp; first | done | with_reducible rfl)
      try simp only [Act.put, List.setIfInBounds_toArray, List.set_cons_zero, List.set_cons_succ]
      refine' Reg.tk (i := 9) (oi := { dst := some 42, op := Op.load 2 (Operand.tmp 41), type := 2, pos := "bound.go:33", after := #[{ on := 8, ground := Ground.data }], guard := none }) (v := _) [15, 18, 19, 20] [20] (Or.inl ⟨by rfl, Or.inl ?hy30⟩) ?rest30
      case hy30 => (intro w' kk ss; obtain ⟨x0, x1, x2', x3⟩ := bx4 (BC.out.since (hr0.trans kk)); have y0 := CC.out _ (hr0.trans kk); go_simp; first | done | with_reducible rfl)
      try simp only [Act.put, List.setIfInBounds_toArray, List.set_cons_zero, List.set_cons_succ]
      refine' Reg.tk (i := 10) (oi := { dst := some 43, op := Op.move (Operand.tmp 1), type := 2, pos := "bound.go:33", after := #[], guard := none }) (v := _) [14, 15, 18, 19, 20] [20] (Or.inl ⟨by rfl, Or.inl ?hy31⟩) ?rest31
      case hy31 => (intro w' kk ss; obtain ⟨x0, x1, x2', x3⟩ := bx4 (BC.out.since (hr0.trans kk)); have y0 := CC.out _ (hr0.trans kk); go_simp; first | done | with_reducible rfl)
      try simp only [Act.put, List.setIfInBounds_toArray, List.set_cons_zero, List.set_cons_succ]
      refine' Reg.tk (i := 11) (oi := { dst := some 44, op := Op.fieldAddr 91 (Operand.tmp 3) 0, type := 0, pos := "bound.go:33", after := #[], guard := none }) (v := _) [12, 13, 14, 15, 18, 19, 20] [20] (Or.inl ⟨by rfl, Or.inl ?hy32⟩) ?rest32
      case hy32 => (intro w' kk ss; obtain ⟨x0, x1, x2', x3⟩ := bx4 (BC.out.since (hr0.trans kk)); have y0 := CC.out _ (hr0.trans kk); go_simp; first | done | with_reducible rfl)
      try simp only [Act.put, List.setIfInBounds_toArray, List.set_cons_zero, List.set_cons_succ]
      refine' Reg.tk (i := 12) (oi := { dst := some 45, op := Op.load 2 (Operand.tmp 44), type := 2, pos := "bound.go:33", after := #[{ on := 11, ground := Ground.data }], guard := none }) (v := _) [13, 14, 15, 18, 19, 20] [20] (Or.inl ⟨by rfl, Or.inl ?hy33⟩) ?rest33
      case hy33 => (intro w' kk ss; obtain ⟨x0, x1, x2', x3⟩ := bx4 (BC.out.since (hr0.trans kk)); have y0 := CC.out _ (hr0.trans kk); go_simp; first | done | with_reducible rfl)
      try simp only [Act.put, List.setIfInBounds_toArray, List.set_cons_zero, List.set_cons_succ]
      refine' Reg.tk (i := 13) (oi := { dst := some 46, op := Op.unOp UnOp.neg 2 (Operand.tmp 45), type := 2, pos := "bound.go:33", after := #[{ on := 12, ground := Ground.data }], guard := none }) (v := _) [14, 15, 18, 19, 20] [20] (Or.inl ⟨by rfl, Or.inl ?hy34⟩) ?rest34
      case hy34 => (intro w' kk ss; obtain ⟨x0, x1, x2', x3⟩ := bx4 (BC.out.since (hr0.trans kk)); have y0 := CC.out _ (hr0.trans kk); go_simp; first | done | with_reducible rfl)
      try simp only [Act.put, List.setIfInBounds_toArray, List.set_cons_zero, List.set_cons_succ]
      refine' Reg.tk (i := 14) (oi := { dst := some 47, op := Op.binOp BinOp.quo 2 (Operand.tmp 43) (Operand.tmp 46) 2, type := 2, pos := "bound.go:33", after := #[{ on := 10, ground := Ground.data }, { on := 13, ground := Ground.data }], guard := none }) (v := _) [15, 18, 19, 20] [20] (Or.inl ⟨by rfl, Or.inl ?hy35⟩) ?rest35
      case hy35 => (intro w' kk ss; obtain ⟨x0, x1, x2', x3⟩ := bx4 (BC.out.since (hr0.trans kk)); have y0 := CC.out _ (hr0.trans kk); go_simp; first | done | with_reducible rfl)
      try simp only [Act.put, List.setIfInBounds_toArray, List.set_cons_zero, List.set_cons_succ]
      refine' Reg.tk (i := 15) (oi := { dst := some 48, op := Op.binOp BinOp.sub 2 (Operand.tmp 42) (Operand.tmp 47) 2, type := 2, pos := "bound.go:33", after := #[{ on := 9, ground := Ground.data }, { on := 14, ground := Ground.data }], guard := none }) (v := _) [18, 19, 20] [20] (Or.inl ⟨by rfl, Or.inl ?hy36⟩) ?rest36
      case hy36 => (intro w' kk ss; obtain ⟨x0, x1, x2', x3⟩ := bx4 (BC.out.since (hr0.trans kk)); have y0 := CC.out _ (hr0.trans kk); go_simp; first | done | with_reducible rfl)
      try simp only [Act.put, List.setIfInBounds_toArray, List.set_cons_zero, List.set_cons_succ]
      refine' Reg.tk (i := 16) (oi := { dst := some 49, op := Op.fieldAddr 91 (Operand.tmp 3) 2, type := 0, pos := "bound.go:33", after := #[], guard := none }) (v := _) [17, 18, 19, 20] [20] (Or.inl ⟨by rfl, Or.inl ?hy37⟩) ?rest37
      case hy37 => (intro w' kk ss; obtain ⟨x0, x1, x2', x3⟩ := bx4 (BC.out.since (hr0.trans kk)); have y0 := CC.out _ (hr0.trans kk); go_simp; first | done | with_reducible rfl)
      try simp only [Act.put, List.setIfInBounds_toArray, List.set_cons_zero, List.set_cons_succ]
      refine' Reg.tk (i := 17) (oi := { dst := some 50, op := Op.load 2 (Operand.tmp 49), type := 2, pos := "bound.go:33", after := #[{ on := 16, ground := Ground.data }], guard := none }) (v := _) [18, 19, 20] [20] (Or.inl ⟨by rfl, Or.inl ?hy38⟩) ?rest38
      case hy38 => (intro w' kk ss; obtain ⟨x0, x1, x2', x3⟩ := bx4 (BC.out.since (hr0.trans kk)); have y0 := CC.out _ (hr0.trans kk); go_simp; first | done | with_reducible rfl)
      try simp only [Act.put, List.setIfInBounds_toArray, List.set_cons_zero, List.set_cons_succ]
      refine Reg.wpG_ready (rs := [18]) (by kernel_rfl) (by simp) (fun wq20001 k20001' sq20001 => ?_)
      have hr0 := hr0.trans k20001'
      refine Reg.AllG.first (o := { dst := some 51, op := Op.call { callee := Callee.value (Operand.func 133), args := #[Operand.tmp 40, Operand.tmp 48, Operand.tmp 50], argTypes := #[50, 2, 2] }, type := 50, pos := "bound.go:33", after := #[{ on := 7, ground := Ground.data }, { on := 15, ground := Ground.data }, { on := 17, ground := Ground.data }], guard := none }) rfl (by rfl) (fun K hK => ?_) Reg.AllG.nil
      go_simp
      (with_reducible refine (CU.out wq20001 hr0 (th - r / q) (th) _ _ WE.out rfl).mono ?_)
      rintro e y20001 ⟨A2, m2, c2, rfl, hm2, q1, hx⟩
      refine hK.out _ _ trivial hx ?_
      clear hK K
      have hr0 := hr0.trans hx
      clear hx
      try simp only [Act.put, List.setIfInBounds_toArray, List.set_cons_zero, List.set_cons_succ]
      refine' Reg.tk (i := 19) (oi := { dst := some 52, op := Op.indexAddr 30 (Operand.tmp 33) (Operand.tmp 35), type := 0, pos := "bound.go:33", after := #[{ on := 0, ground := Ground.data }, { on := 2, ground := Ground.data }, { on := 0, ground := Ground.phase }, { on := 1, ground := Ground.phase }, { on := 2, ground := Ground.phase }, { on := 3, ground := Ground.phase }, { on := 4, ground := Ground.phase }, { on := 5, ground := Ground.phase }, { on := 6, ground := Ground.phase }, { on := 7, ground := Ground.phase }, { on := 8, ground := Ground.phase }, { on := 9, ground := Ground.phase }, { on := 10, ground := Ground.phase }, { on := 11, ground := Ground.phase }, { on := 12, ground := Ground.phase }, { on := 13, ground := Ground.phase }, { on := 14, ground := Ground.phase }, { on := 15, ground := Ground.phase }, { on := 16, ground := Ground.phase }, { on := 17, ground := Ground.phase }, { on := 18, ground := Ground.phase }], guard := none }) (v := _) [20] [20] (Or.inl ⟨by rfl, Or.inl ?hy39⟩) ?rest39
      case hy39 => (intro w' kk ss; obtain ⟨x0, x1, x2', x3⟩ := bx4 (BC.out.since (hr0.trans kk)); have y0 := CC.out _ (hr0.trans kk); go_simp; first | done | with_reducible rfl)
      try simp only [Act.put, List.setIfInBounds_toArray, List.set_cons_zero, List.set_cons_succ]
      refine Reg.wpG_ready (rs := [20]) (by kernel_rfl) (by simp) (fun wq k20002' sq => ?_)
      have hr0 := hr0.trans k20002'
      have q1 := q1.since k20002'
      refine Reg.AllG.last (o := { dst := none, op := Op.store 50 (Operand.tmp 52) (Operand.tmp 51), type := 0, pos := "bound.go:33", after := #[{ on := 19, ground := Ground.data }, { on := 18, ground := Ground.data }, { on := 18, ground := Ground.chain }, { on := 0, ground := Ground.phase }, { on := 1, ground := Ground.phase }, { on := 2, ground := Ground.phase }, { on := 3, ground := Ground.phase }, { on := 4, ground := Ground.phase }, { on := 5, ground := Ground.phase }, { on := 6, ground := Ground.phase }, { on := 7, ground := Ground.phase }, { on := 8, ground := Ground.phase }, { on := 9, ground := Ground.phase }, { on := 10, ground := Ground.phase }, { on := 11, ground := Ground.phase }, { on := 12, ground := Ground.phase }, { on := 13, ground := Ground.phase }, { on := 14, ground := Ground.phase }, { on := 15, ground := Ground.phase }, { on := 16, ground := Ground.phase }, { on := 17, ground := Ground.phase }, { on := 18, ground := Ground.phase }], guard := none }) rfl (by rfl) (fun K hK => ?_) Reg.AllG.nil
      have PU := PT.out _ _ _ hr0 q1
      have z0 := CC.out _ hr0
      have zf := FZ.out _ hr0
      obtain ⟨x0, x1, x2', x3⟩ := bx4 (BC.out.since hr0)
      go_simp
      refine hK.out _ _ trivial (fun hHeld => ?_)
      clear hK K
      try simp only [Act.put, List.setIfInBounds_toArray, List.set_cons_zero, List.set_cons_succ]
      refine wpAnyH_done (by kernel_rfl) ?_ _
      refine NoPanic.normal ?_
      go_wp2
      refine bodyPost_end (results_none rfl _ _ _) rfl ?_
      exact ⟨rfl, PU, Og.put (Turn.of (ka.out.trans hr0) _) j _⟩
    · have E := Lib.hid (show cutT r ⟨tn, tl, th, (j : Int)⟩ D = D by simp only [cutT]; rw [if_neg c1, if_neg c2])
      rw [E.out]
      clear h hS e0 hfz hR hrd hdm
      go_enter Try.func98, Try.ntmps98
      obtain ⟨r0, r1, r2, r3⟩ := bx4 BC.out
      go_wp2
      refine bodyPost_end (results_none rfl _ _ _) rfl ?_
      exact ⟨rfl, HH.out.since ka.out, Turn.of ka.out _⟩
section
open Go.RowKit
set_option linter.unusedVariables false
set_option linter.unusedSimpArgs false
open Go.Proofs.Ytoegbgkgenjplaa.Dig Go.Proofs.Ytoegbgkgenjplaa.Lx Go.Proofs.Ytoegbgkgenjplaa.Tk Go.Proofs.Ytoegbgkgenjplaa.Ti Go.Proofs.Ytoegbgkgenjplaa.Zs Go.Proofs.Ytoegbgkgenjplaa.Tr Go.Proofs.Ytoegbgkgenjplaa.Sn
/-- the call has narrowed the domains in the block g to R, or says that there is no R -/
def RetL (R : Option Ds) (g n : Nat) (w0 w : World) (e : Ending) (w' : World) : Prop := e = .returned (.bool R.isSome) ∧ (∀ E, R = some E → DAt g n w0 w' E) ∧ Og g w w'
theorem RetL.no {R : Option Ds} {g n : Nat} {w0 w w' : World} (h : R = none) (k : Og g w w') : RetL R g n w0 w (.returned (.bool false)) w' := by subst h; exact ⟨rfl, fun E h => (by cases h), k⟩
theorem RetL.yes {R : Option Ds} {E : Ds} {g n : Nat} {w0 w w' : World} (h : R = some E) (hE : DAt g n w0 w' E) (k : Og g w w') : RetL R g n w0 w (.returned (.bool true)) w' := by subst h; exact ⟨rfl, fun E' h => by cases h; exact hE, k⟩
theorem keep_cons {r : Int} {T : List Tm} {k : Nat} (hk : k < T.length) (D : Ds) : keepT r (T.drop k) D = if domAt (cutT r T[k] D) T[k].x = [] then none else keepT r (T.drop (k + 1)) (cutT r T[k] D) := by
  rw [dropT hk, keepT]
set_option maxRecDepth 20000 in
set_option maxHeartbeats 3000000 in
theorem atMost_any (v : Value) (c : Cn) (g n : Nat) (D : Ds) (w0 w : World) (h : ConAt w v c) (hD : DAt g n w0 w D) (hg : w0.heap.size ≤ g ∧ g < w.heap.size) (hG : Gd D) (hx : c.x.all (isV D.length) = true) (hl : c.a.length ≤ c.x.length) (ha : c.a.length ≤ 1000) (hw : c.a.all within = true) (hc : -1048576 ≤ c.c ∧ c.c ≤ 1048576) :
    Calls Try.prog 61 #[v, .slice (some ⟨g, 0, none⟩) n n] w (RetL (amL c.c (tms c.a c.x D) D) g n w0 w) := by
  obtain ⟨T, hT⟩ : ∃ T, T = tms c.a c.x D := ⟨_, rfl⟩
  have TM := Lib.hid (fun W (k : Since w W) => by have := termsOf_any v _ c D W (h.since k) (hD.sl.since stD k) hG hx hl ha; rw [← hT] at this; exact this)
  have hTB : ∀ t ∈ T, Bt t := by rw [hT]; exact tms_bt hG hx hw
  have hTV : Vs T D.length := by rw [hT]; exact (tms_in hG.rd hx).1
  have hTL : T.length ≤ 1000 := by rw [hT, tms_len hl]; exact ha
  rw [← hT]
  clear hT
  obtain ⟨vx, vy, rfl, h1, h2⟩ := h
  obtain ⟨ck, cx, ca, cc⟩ := c
  simp only at *
  obtain ⟨X, xc, rfl⟩ := h1.form
  obtain ⟨Y, yc, rfl⟩ := h2.form
  generalize cx.length = nx at *
  generalize ca.length = ny at *
  have ka := Lib.hid (since_alloc w (.cells #[.int .i64 ck, .slice X nx xc, .slice Y ny yc, .int .i64 cc] 25))
  have BC := Lib.hid (Bx.fresh w #[.int .i64 ck, .slice X nx xc, .slice Y ny yc, .int .i64 cc] 25)
  obtain ⟨S, hS⟩ : ∃ S, S = lsum T := ⟨_, rfl⟩
  have hsb := lsum_bd hTB
  rw [← hS] at hsb
  have hS1 : -1099511627776000 ≤ S := by omega
  have hS2 : S ≤ 1099511627776000 := by omega
  obtain ⟨hc1, hc2⟩ := hc
  have LE := Lib.hid (fun A m cA W W' (h : NewT W W' (.slice A m cA) T) W2 (k : Since W' W2) => by have := least_any _ T W2 (h.1.since stT k) hTL hTB; rw [← hS] at this; exact this)
  have WE := Lib.hid (show IntKind.i64.wrap (cc - S) = cc - S from wrap_id' (by omega) (by omega))
  obtain ⟨R, hR⟩ : ∃ R, R = amL cc T D := ⟨_, rfl⟩
  have HRn := Lib.hid (fun (e : cc - S < 0) => show R = none by rw [hR, amL, ← hS, if_pos e])
  have HRy := Lib.hid (fun (e : ¬ cc - S < 0) => show keepT (cc - S) T D = R by rw [hR, amL, ← hS, if_neg e])
  rw [← hR]
  have HD := Lib.hid hD
  have HG := Lib.hid hg
  have HRd := Lib.hid hG.rd
  have HTV := Lib.hid hTV
  have HTB := Lib.hid hTB
  have HTL := Lib.hid hTL
  clear hS hsb hR h1 h2 hD hg hG hx hl ha hw hTV hTB hTL
  go_enter Try.func61, Try.ntmps61
  go_wp2_with (go_at_call 93; (with_reducible refine (TM.out _ ka.out).mono ?_); rintro e w1 ⟨A, nT, cA, rfl, hnT, hNT, k1⟩; have HNT := Lib.hid hnT; have NT := Lib.hid hNT; have K1 := Lib.hid k1; have LD := Lib.hid (fun W2 k => LE.out A nT cA _ w1 NT.out W2 k); clear hnT hNT k1)
  have hr0 : Since w1 w1.drew := Since.drew (Since.refl w1)
  refine wp_region_noPanic ?_
  refine Reg.wp_region_G (S := fun _ => True) (fun j => [].contains j) (by kernel_rfl) trivial ?_
  refine' Reg.tk (i := 0) (oi := { dst := some 12, op := Op.fieldAddr 25 (Operand.tmp 2) 3, type := 0, pos := "bound.go:13", after := #[], guard := none }) (v := _) [1, 4, 5] [] (Or.inl ⟨by rfl, Or.inl ?hy2⟩) ?rest2
  case hy2 => (intro w' kk ss; obtain ⟨x0, x1, x2', x3⟩ := bx4 (BC.out.since (K1.out.trans (hr0.trans kk))); go_simp; first | done | with_reducible rfl)
  try simp only [Act.put, List.setIfInBounds_toArray, List.set_cons_zero, List.set_cons_succ]
  refine' Reg.tk (i := 1) (oi := { dst := some 13, op := Op.load 2 (Operand.tmp 12), type := 2, pos := "bound.go:13", after := #[{ on := 0, ground := Ground.data }], guard := none }) (v := _) [4, 5] [] (Or.inl ⟨by rfl, Or.inl ?hy3⟩) ?rest3
  case hy3 => (intro w' kk ss; obtain ⟨x0, x1, x2', x3⟩ := bx4 (BC.out.since (K1.out.trans (hr0.trans kk))); go_simp; first | done | with_reducible rfl)
  try simp only [Act.put, List.setIfInBounds_toArray, List.set_cons_zero, List.set_cons_succ]
  refine' Reg.tk (i := 2) (oi := { dst := some 14, op := Op.move (Operand.tmp 5), type := 86, pos := "bound.go:13", after := #[], guard := none }) (v := _) [3, 4, 5] [] (Or.inl ⟨by rfl, Or.inl ?hy4⟩) ?rest4
  case hy4 => (intro w' kk ss; obtain ⟨x0, x1, x2', x3⟩ := bx4 (BC.out.since (K1.out.trans (hr0.trans kk))); go_simp; first | done | with_reducible rfl)
  try simp only [Act.put, List.setIfInBounds_toArray, List.set_cons_zero, List.set_cons_succ]
  refine Reg.tk (i := 3) (oi := { dst := some 15, op := Op.call { callee := Callee.value (Operand.func 94), args := #[Operand.tmp 14], argTypes := #[86] }, type := 2, pos := "bound.go:13", after := #[{ on := 2, ground := Ground.data }], guard := none }) (v := .int .i64 S) [4, 5] [] (Or.inl ⟨by rfl, Or.inr ⟨94, #[.slice A nT cA], fun w' kk ss => ⟨?_, ?_⟩⟩⟩) ?_
  · (try dsimp only at ss); go_simp
  · exact LD.out w' (hr0.trans kk)
  try simp only [Act.put, List.setIfInBounds_toArray, List.set_cons_zero, List.set_cons_succ]
  refine' Reg.tk (i := 4) (oi := { dst := some 16, op := Op.binOp BinOp.sub 2 (Operand.tmp 13) (Operand.tmp 15) 2, type := 2, pos := "bound.go:13", after := #[{ on := 1, ground := Ground.data }, { on := 3, ground := Ground.data }], guard := none }) (v := _) [5] [] (Or.inl ⟨by rfl, Or.inl ?hy5⟩) ?rest5
  case hy5 => (intro w' kk ss; obtain ⟨x0, x1, x2', x3⟩ := bx4 (BC.out.since (K1.out.trans (hr0.trans kk))); go_simp; first | done | with_reducible rfl)
  try simp only [Act.put, List.setIfInBounds_toArray, List.set_cons_zero, List.set_cons_succ]
  refine' Reg.tk (i := 5) (oi := { dst := some 6, op := Op.assign (Operand.tmp 16), type := 2, pos := "bound.go:13", after := #[{ on := 4, ground := Ground.data }, { on := 3, ground := Ground.chain }, { on := 0, ground := Ground.phase }, { on := 1, ground := Ground.phase }, { on := 2, ground := Ground.phase }, { on := 3, ground := Ground.phase }, { on := 4, ground := Ground.phase }], guard := none }) (v := _) [] [] (Or.inl ⟨by rfl, Or.inl ?hy6⟩) ?rest6
  case hy6 => (intro w' kk ss; obtain ⟨x0, x1, x2', x3⟩ := bx4 (BC.out.since (K1.out.trans (hr0.trans kk))); go_simp; first | done | with_reducible rfl)
  try simp only [Act.put, List.setIfInBounds_toArray, List.set_cons_zero, List.set_cons_succ]
  refine Reg.wpG_done (by kernel_rfl) (fun we ke se => ?_) _
  refine NoPanic.normal ?_
  have hr0 := hr0.trans ke
  clear ke
  simp only [WE.out]
  have OW := Lib.hid (show Og g w we from Turn.of (ka.out.trans (K1.out.trans hr0)) _)
  have KW := Lib.hid (show Since w we from ka.out.trans (K1.out.trans hr0))
  by_cases c0 : cc - S < 0
  · have E := Lib.hid (HRn.out (by omega))
    clear HRy HRn TM LE LD
    go_wp2
    go_ret
    exact .no E.out OW.out
  have HK := Lib.hid (HRy.out (by omega))
  have hrm2 : cc - S ≤ 1125899906842624 := by omega
  have hrm1 : 0 ≤ cc - S := by omega
  generalize cc - S = r at *
  have TR := Lib.hid (show Sl 4 QT we (.slice A nT cA) T from NT.out.1.since stT hr0)
  have TG := Lib.hid (fun b (hb : (Value.slice A nT cA).ownBlock = some b) => show b ≠ g by have h1 := NT.out.2 b hb; have h2 := HG.out.2; have h3 := ka.out.size; omega)
  have GW := Lib.hid (show g < we.heap.size from Nat.lt_of_lt_of_le HG.out.2 KW.out.size)
  have hnT9 : nT ≤ 1000 := by rw [← HNT.out]; exact HTL.out
  clear HRy HRn TM LE LD WE hr0
  go_wp2
  go_loopw [21] (fun i wr => ∃ (k : Nat) (D1 : Ds), i = .int .i64 (k : Int) ∧ k ≤ nT ∧ Hid (DAt g n w0 wr D1) ∧ Hid (Rd D1) ∧ Hid (D1.length = D.length) ∧ Hid (keepT r (T.drop k) D1 = R) ∧ Hid (Og g we wr)) (fun i _ => nT - (intOf i).toNat)
  case atStart => exact ⟨0, D, rfl, Nat.zero_le _, HD.out.since KW.out, HRd.out, rfl, HK.out, Og.refl _ _⟩
  case round =>
    obtain ⟨k, D1, rfl, hk, H1, HR1, HL1, HE, HO⟩ := hrel
    by_cases hkn : k < nT
    · have hkl : k < T.length := by rw [HNT.out]; exact hkn
      obtain ⟨gt, ot, rfl, e0, e1, e2, e3⟩ := elT (HO.out.sl (fun _ _ _ _ h => h) TR.out TG.out) hkl
      have hst := HE.out
      rw [keep_cons hkl] at hst
      have hbt := HTB.out _ (List.getElem_mem hkl)
      have hvs := HTV.out _ (List.getElem_mem hkl)
      generalize T[k] = t at *
      obtain ⟨j, hj⟩ : ∃ j : Nat, t.x = (j : Int) := ⟨t.x.toNat, by omega⟩
      have hjn : j < D.length := by rw [hj] at hvs; simpa using hvs.2
      have hj2 : j < n := by have := H1.out.len; have := HL1.out; omega
      have hlen : (cutT r t D1).length = D.length := by rw [cutT_len]; exact HL1.out
      have ST := Lib.hid hst
      have RD2 := Lib.hid (cutT_rd (r := r) (t := t) HR1.out)
      have HLN := Lib.hid hlen
      have CU := Lib.hid (fun W (kk : Since wr W) => cut_any t r g n D1 w0 W (H1.out.since kk) ⟨HG.out.1, Nat.lt_of_lt_of_le (Nat.lt_of_lt_of_le GW.out HO.out.size) kk.size⟩ ⟨hrm1, hrm2⟩ hbt ⟨j, hj, hj2⟩ HR1.out)
      have NG := Lib.hid (show wr.heap.size ≠ g by have h1 := GW.out; have h2 := HO.out.size; omega)
      obtain ⟨tn, tl, th, tx⟩ := t
      simp only at hj
      subst hj
      simp only at e0 e1 e2 e3 CU ST
      generalize hD2 : cutT r ⟨tn, tl, th, (j : Int)⟩ D1 = D2 at *
      have ki := Lib.hid (since_alloc wr (.cells #[.int .i64 tn, .int .i64 tl, .int .i64 th, .int .i64 (j : Int)] 91))
      have BT := Lib.hid (Bx.fresh wr #[.int .i64 tn, .int .i64 tl, .int .i64 th, .int .i64 (j : Int)] 91)
      obtain ⟨r0, r1, r2, r3⟩ := bx4 BT.out
      clear hst hbt hvs hlen hkl hD2
      go_wp2_with (go_at_call 98; (with_reducible refine (CU.out _ ki.out).mono ?_); rintro e w2 ⟨rfl, q1, q2⟩; have Q1 := Lib.hid q1; have Q2 := Lib.hid q2; obtain ⟨p0, p1, p2, p3⟩ := bx4 (q2.bx BT.out NG.out); obtain ⟨A2, c2, d0, d1⟩ := q1.get (i := j) (by rw [HLN.out]; exact hjn); clear q1 q2 d1; obtain ⟨p, hp⟩ : ∃ p, p = (D2[j]'(by rw [HLN.out]; exact hjn)).length := ⟨_, rfl⟩; rw [← hp] at d0; have HP := Lib.hid hp; clear hp; rcases Nat.eq_zero_or_pos p with rfl | hz)
      · have HDL : domAt D2 (j : Int) = D2[j]'(by rw [HLN.out]; exact hjn) := by simp [domAt, HLN.out, hjn]
        have E := Lib.hid (show R = none by rw [← ST.out, if_pos]; rw [HDL]; exact List.eq_nil_of_length_eq_zero HP.out.symm)
        clear HDL ST
        go_ret
        exact .no E.out (OW.out.trans (HO.out.trans ((Turn.of ki.out _).trans Q2.out)))
      · have HDL : domAt D2 (j : Int) = D2[j]'(by rw [HLN.out]; exact hjn) := by simp [domAt, HLN.out, hjn]
        have E := Lib.hid (show keepT r (T.drop (k + 1)) D2 = R by rw [← ST.out, if_neg]; rw [HDL]; intro e; have hp := HP.out; rw [e] at hp; simp at hp; omega)
        clear HDL ST
        go_roundw
        case rel => exact ⟨k + 1, D2, by go_num, by omega, Q1.out, RD2.out, HLN.out, E.out, Lib.hid (HO.out.trans ((Turn.of ki.out _).trans Q2.out))⟩
        case measure => simp [intOf]; omega
    · obtain rfl : k = nT := by omega
      have E := Lib.hid (show R = some D1 by rw [← HE.out, List.drop_of_length_le (by have := HNT.out; omega)]; rfl)
      go_wp2
      go_ret
      exact .yes E.out H1.out (OW.out.trans HO.out)
end
section
open Go.RowKit
set_option linter.unusedVariables false
set_option linter.unusedSimpArgs false
open Go.Proofs.Ytoegbgkgenjplaa.Dig Go.Proofs.Ytoegbgkgenjplaa.Lx Go.Proofs.Ytoegbgkgenjplaa.Tk Go.Proofs.Ytoegbgkgenjplaa.Ti Go.Proofs.Ytoegbgkgenjplaa.Zs Go.Proofs.Ytoegbgkgenjplaa.Tr Go.Proofs.Ytoegbgkgenjplaa.Sn
/-- a row of numbers in blocks from n on -/
def Rzz (n : Nat) (w : World) (v : Value) (xs : List Int) : Prop := ∃ cs, w.ownsRow n 2 1 v xs.length cs ∧ Rws 1 QI0 xs cs
theorem Rzz.set {n : Nat} {w : World} {v : Value} {xs : List Int} (h : Rzz n w v xs) {a : Addr} (ha : a.block < n) (u : Value) : Rzz n (w.setCell a u) v xs := by
  obtain ⟨cs, h1, h2⟩ := h
  exact ⟨cs, ownsRow_setCell_below h1 ha u, h2⟩
theorem Rzz.since {n : Nat} {w w' : World} {v : Value} {xs : List Int} (h : Rzz n w v xs) (k : Since w w') : Rzz n w' v xs := by
  obtain ⟨cs, h1, h2⟩ := h
  exact ⟨cs, owns_since h1 k, h2⟩
theorem Rzz.sl {n : Nat} {w : World} {v : Value} {xs : List Int} (h : Rzz n w v xs) : Sl 1 QI w v xs := by
  obtain ⟨cs, h1, h2⟩ := h
  have : Sl 1 (fun _ => QI0) w v xs := Sl.own h1 h2 rfl
  exact this
theorem wpList_appZ {n : Nat} {w : World} {v : Value} {xs : List Int} (H : Rzz n w v xs) (hn : n ≤ w.heap.size) (hl : xs.length ≤ 1000000) (x : Int) (g d : Nat) (hb : w.cell? ⟨g, 0, none⟩ = some (.int .i64 x))
    {ops : Array Oper} {rest : List Oper} {o : Oper} {a : Act} {R : Exit → Act → World → Prop} (hw : Region.wanted o (yielded ops a.tmps) = true) (s z : Operand)
    (ho : o.op = .call { callee := .builtin .append, args := #[s, z], argTypes := #[23, 23] }) (hs : a.eval s = v) (hx : a.eval z = .slice (some ⟨g, 0, none⟩) 1 d)
    (h : ∀ A c w', Rzz n w' (.slice A (xs.length + 1) c) (xs ++ [x]) → (∀ b cs t, b < n → Bx w b cs t → Bx w' b cs t) → (∀ w1, Since w1 w → w1.heap.size ≤ n → Since w1 w') → w.heap.size ≤ w'.heap.size → wpList Try.prog ops R rest (a.put o.dst (.slice A (xs.length + 1) c)) w') : wpList Try.prog ops R (o :: rest) a w := by
  refine BigFrame.wpList_want hw fun K hK => ?_
  obtain ⟨i, zv, bytes, hi, hz0, hz1, hz2, hz3, hz4⟩ := nL.inf
  obtain ⟨cs, hown, hrows⟩ := H
  have hmul : (xs.length + 1) * bytes ≤ (xs.length + 1) * 24 := Nat.mul_le_mul_left _ hz3
  refine wp_append_at w s z 23 ho n 2 i zv 1 bytes nL.ht hi hz0 hz1 hz2 hz4 (by decide) v xs.length cs hs hown ⟨g, 0, none⟩ 1 d [.int .i64 x] hx rfl ?_ ?_ ?_ ?_ hn fun v' w' h2 h3 h4 => ?_
  · intro j u hj
    rw [add_at, Nat.zero_add]
    match j, hj with
    | 0, hj => cases hj; exact hb
    | j + 1, hj => simp at hj
  · intro u hu; simp at hu; subst hu; rfl
  · unfold maxLen; omega
  · omega
  · obtain ⟨A, c', rfl⟩ := owns_slice h2
    refine hK _ _ (h A c' w' ⟨cs ++ [.int .i64 x], ?_, hrows.snoc (show QI0 x [.int .i64 x] from rfl) rfl⟩ (fun b cs t hb hB => ?_) (fun w1 k1 hk => ?_) h3.size)
    · rw [List.length_append]; exact h2
    · exact Keep.of h3 b cs t hB fun e => by have := (hown.lt b e).1; omega
    · exact Below.grown k1 h3 (Nat.le_trans hk hn) (fun g hg => Nat.le_trans hk (hown.lt g hg).1)
set_option maxRecDepth 20000 in
set_option maxHeartbeats 3000000 in
theorem negated_any (v : Value) (c : Cn) (w : World) (h : ConAt w v c) (ha : c.a.length ≤ 1000) (hw : c.a.all within = true) (hc : -1048576 ≤ c.c ∧ c.c ≤ 1048576) :
    Calls Try.prog 97 #[v] w (fun e w' => ∃ v', e = .returned v' ∧ ConAt w' v' ⟨c.k, c.x, neg c.a, -c.c⟩ ∧ Since w w') := by
  obtain ⟨vx, vy, rfl, h1, h2⟩ := h
  obtain ⟨ck, cx, ca, cc⟩ := c
  simp only at *
  obtain ⟨X, xc, rfl⟩ := h1.form
  obtain ⟨Y, yc, rfl⟩ := h2.form
  obtain ⟨ny, hny⟩ : ∃ n, n = ca.length := ⟨_, rfl⟩
  rw [← hny] at h2 ha ⊢
  generalize hnx : cx.length = nx at *
  have H1 := Lib.hid h1
  have H2 := Lib.hid h2
  have HY := Lib.hid hny
  have HA := Lib.hid (List.all_eq_true.1 hw)
  obtain ⟨hc1, hc2⟩ := hc
  have WC : IntKind.i64.wrap (-cc) = -cc := wrap_id' (by omega) (by omega)
  have s1 := since_alloc w (.cells #[.int .i64 ck, .slice X nx xc, .slice Y ny yc, .int .i64 cc] 25)
  have s2 := since_alloc (w.alloc (.cells #[.int .i64 ck, .slice X nx xc, .slice Y ny yc, .int .i64 cc] 25)) (.cells #[.int .i64 0, .slice none 0 0, .slice none 0 0, .int .i64 0] 25)
  have s3 := since_alloc ((w.alloc (.cells #[.int .i64 ck, .slice X nx xc, .slice Y ny yc, .int .i64 cc] 25)).alloc (.cells #[.int .i64 0, .slice none 0 0, .slice none 0 0, .int .i64 0] 25)) (.cells #[.int .i64 ck, .slice X nx xc, .slice none 0 0, .int .i64 (-cc)] 25)
  have B1 := Bx.fresh w #[.int .i64 ck, .slice X nx xc, .slice Y ny yc, .int .i64 cc] 25
  have B2 := Bx.fresh (w.alloc (.cells #[.int .i64 ck, .slice X nx xc, .slice Y ny yc, .int .i64 cc] 25)) #[.int .i64 0, .slice none 0 0, .slice none 0 0, .int .i64 0] 25
  have B3 := Bx.fresh ((w.alloc (.cells #[.int .i64 ck, .slice X nx xc, .slice Y ny yc, .int .i64 cc] 25)).alloc (.cells #[.int .i64 0, .slice none 0 0, .slice none 0 0, .int .i64 0] 25)) #[.int .i64 ck, .slice X nx xc, .slice none 0 0, .int .i64 (-cc)] 25
  have z1 : (w.alloc (.cells #[.int .i64 ck, .slice X nx xc, .slice Y ny yc, .int .i64 cc] 25)).heap.size = w.heap.size + 1 := by simp
  have z2 : ((w.alloc (.cells #[.int .i64 ck, .slice X nx xc, .slice Y ny yc, .int .i64 cc] 25)).alloc (.cells #[.int .i64 0, .slice none 0 0, .slice none 0 0, .int .i64 0] 25)).heap.size = w.heap.size + 2 := by simp
  have z3 : (((w.alloc (.cells #[.int .i64 ck, .slice X nx xc, .slice Y ny yc, .int .i64 cc] 25)).alloc (.cells #[.int .i64 0, .slice none 0 0, .slice none 0 0, .int .i64 0] 25)).alloc (.cells #[.int .i64 ck, .slice X nx xc, .slice none 0 0, .int .i64 (-cc)] 25)).heap.size = w.heap.size + 3 := by simp
  rw [z1] at B2
  rw [z2] at B3
  have C1 := Lib.hid (B1.since (s2.trans s3))
  have C2 := Lib.hid (B2.since s3)
  have C3 := Lib.hid B3
  have S0 := Lib.hid (s1.trans (s2.trans s3))
  have Z3 := Lib.hid z3
  clear B2 B3 s2 s3 z1 z2 z3 h1 h2 hny hw hnx
  go_enter Try.func97, Try.ntmps97
  obtain ⟨b0, b1, b2, b3⟩ := bx4 B1
  clear B1 s1
  go_wp2
  obtain ⟨b0, b1, b2, b3⟩ := bx4 C1.out
  obtain ⟨n0, n1, n2, n3⟩ := bx4 C3.out
  go_wp2
  go_loopw [17] (fun i wr => ∃ (k : Nat) (A : Option Addr) (cA : Nat), i = .int .i64 (k : Int) ∧ k ≤ ny ∧ Hid (Rzz (w.heap.size + 3) wr (.slice A k cA) (neg (ca.take k))) ∧ Hid (Bx wr w.heap.size #[.int .i64 ck, .slice X nx xc, .slice Y ny yc, .int .i64 cc] 25) ∧ Hid (Bx wr (w.heap.size + 1) #[.int .i64 0, .slice none 0 0, .slice none 0 0, .int .i64 0] 25) ∧ Hid (Bx wr (w.heap.size + 2) #[.int .i64 ck, .slice X nx xc, .slice A k cA, .int .i64 (-cc)] 25) ∧ Hid (Since w wr) ∧ Hid (w.heap.size + 3 ≤ wr.heap.size)) (fun i _ => ny - (intOf i).toNat)
  case atStart => exact ⟨0, none, 0, rfl, Nat.zero_le _, Lib.hid ⟨[], World.ownsRow_nil _ _ _ _, .nil⟩, C1.out, C2.out, C3.out, S0.out, Lib.hid (by rw [Z3.out]; exact Nat.le_refl _)⟩
  case round =>
    obtain ⟨k, A, cA, rfl, hk, HR, D1, D2, D3, HS, HZ⟩ := hrel
    by_cases hkn : k < ny
    · have hkl : k < ca.length := by have := HY.out; omega
      obtain ⟨gy, oy, rfl, ey⟩ := elI (H2.out.since stI HS.out) hkl
      have hwa := (within_iff' _).1 (HA.out _ (List.getElem_mem hkl))
      have T := Lib.hid (neg_take hkl)
      generalize ca[k] = y at *
      obtain ⟨hw1, hw2⟩ := hwa
      have WY : IntKind.i64.wrap (-y) = -y := wrap_id' (by omega) (by omega)
      obtain ⟨n0, n1, n2, n3⟩ := bx4 D3.out
      have ki := since_alloc wr (.cells #[.int .i64 (-y)] 2)
      have RI := Lib.hid (HR.out.since ki)
      have E1 := Lib.hid (D1.out.since ki)
      have E2 := Lib.hid (D2.out.since ki)
      have E3 := Lib.hid (D3.out.since ki)
      have SI := Lib.hid (HS.out.trans ki)
      have BN := Lib.hid (Bx.fresh wr #[.int .i64 (-y)] 2)
      have ZI := Lib.hid (Nat.le_trans HZ.out ki.size)
      have hl9 : (neg (ca.take k)).length ≤ 1000000 := by rw [neg_len, List.length_take]; omega
      have HL := Lib.hid (show (neg (ca.take k)).length = k by rw [neg_len, List.length_take]; omega)
      clear hkl ki
      go_wp2_with (at_builtin; refine wpList_appZ RI.out ZI.out hl9 (-y) wr.heap.size 1 (BN.out.cell 0) (by rfl) _ _ rfl rfl rfl ?_; intro A3 c3 w3 h3 f3 g3 s3; have H3 := Lib.hid h3; have G1 := Lib.hid (f3 _ _ _ (by omega) E1.out); have G2 := Lib.hid (f3 _ _ _ (by omega) E2.out); have G3 := Lib.hid (f3 _ _ _ (by omega) E3.out); have SG := Lib.hid (g3 w SI.out (by omega)); obtain ⟨m0, m1, m2, m3⟩ := bx4 G3.out; obtain ⟨m0', m1', m2', m3'⟩ := bx4' G3.out; have ZS := Lib.hid (Nat.le_trans ZI.out s3); clear h3 f3 g3 s3)
      go_roundw
      case rel =>
        have h3 := H3.out
        rw [HL.out, ← T.out] at h3
        have hb := bxset G3.out 2 (.slice A3 (k + 1) c3) rfl
        rw [HL.out]
        refine ⟨k + 1, A3, c3, by go_num, by omega, Lib.hid (h3.set (by show w.heap.size + 2 < w.heap.size + 3; omega) _), ?_, ?_, ?_, ?_, ?_⟩
        · exact Lib.hid (G1.out.other (b' := w.heap.size + 2) (by omega) 2 (.slice A3 (k + 1) c3))
        · exact Lib.hid (G2.out.other (b' := w.heap.size + 2) (by omega) 2 (.slice A3 (k + 1) c3))
        · exact Lib.hid hb
        · exact Lib.hid (SG.out.set (p := ⟨w.heap.size + 2, 2, none⟩) (by simp) (.slice A3 (k + 1) c3))
        · exact Lib.hid (by simp [World.setCell]; exact ZS.out)
      case measure => simp [intOf]; omega
    · obtain rfl : k = ny := by omega
      have HE := Lib.hid (show ca.take k = ca from List.take_of_length_le (by have := HY.out; omega))
      obtain ⟨n0, n1, n2, n3⟩ := bx4 D3.out
      obtain ⟨q0, q1, q2, q3⟩ := bx4 D2.out
      obtain ⟨q0', q1', q2', q3'⟩ := bx4' D2.out
      go_wp2
      have hb4 := bxset (bxset (bxset (bxset D2.out 0 (.int .i64 ck) rfl) 1 (.slice X nx xc) rfl) 2 (.slice A k cA) rfl) 3 (.int .i64 (-cc)) rfl
      refine bodyPost_ret (results_cell_row (P := Try.prog) rfl _ _ (w.heap.size + 1) 25 _ _ _ rfl hb4 Try.underlying25 rfl (by kernel_rfl)) rfl ?_
      have hr := HR.out
      rw [HE.out] at hr
      have hs := ((((HS.out.set (p := ⟨w.heap.size + 1, 0, none⟩) (by simp) (.int .i64 ck)).set (p := ⟨w.heap.size + 1, 1, none⟩) (by simp) (.slice X nx xc)).set (p := ⟨w.heap.size + 1, 2, none⟩) (by simp) (.slice A k cA)).set (p := ⟨w.heap.size + 1, 3, none⟩) (by simp) (.int .i64 (-cc)))
      refine ⟨_, rfl, ⟨_, _, rfl, H1.out.since stI hs, ?_⟩, hs⟩
      have h4 := (((hr.set (a := ⟨w.heap.size + 1, 0, none⟩) (by simp) (.int .i64 ck)).set (a := ⟨w.heap.size + 1, 1, none⟩) (by simp) (.slice X nx xc)).set (a := ⟨w.heap.size + 1, 2, none⟩) (by simp) (.slice A k cA)).set (a := ⟨w.heap.size + 1, 3, none⟩) (by simp) (.int .i64 (-cc))
      exact h4.sl
end
section
open Go.RowKit
set_option linter.unusedVariables false
set_option linter.unusedSimpArgs false
open Go.Proofs.Ytoegbgkgenjplaa.Dig Go.Proofs.Ytoegbgkgenjplaa.Lx Go.Proofs.Ytoegbgkgenjplaa.Tk Go.Proofs.Ytoegbgkgenjplaa.Ti Go.Proofs.Ytoegbgkgenjplaa.Zs Go.Proofs.Ytoegbgkgenjplaa.Tr Go.Proofs.Ytoegbgkgenjplaa.Sn
theorem con_unveil {G : Nat → Bool} {w : World} {v : Value} {c : Cn} (h : ConAt (veil G w) v c) : ConAt w v c := by
  obtain ⟨vx, va, h1, h2, h3⟩ := h
  exact ⟨vx, va, h1, Sl.unveil (Q := QI) (Q' := QI) (fun _ _ h => h) h2, Sl.unveil (Q := QI) (Q' := QI) (fun _ _ h => h) h3⟩
set_option maxRecDepth 20000 in
set_option maxHeartbeats 3000000 in
theorem equal_any (v : Value) (c : Cn) (g n : Nat) (D : Ds) (w0 w : World) (h : ConAt (veil (but g) w) v c) (hD : DAt g n w0 w D) (hg : w0.heap.size ≤ g ∧ g < w.heap.size) (hG : Gd D) (hx : c.x.all (isV D.length) = true) (hl : c.a.length ≤ c.x.length) (ha : c.a.length ≤ 1000) (hw : c.a.all within = true) (hc : -1048576 ≤ c.c ∧ c.c ≤ 1048576) :
    Calls Try.prog 60 #[v, .slice (some ⟨g, 0, none⟩) n n] w (RetL ((amL c.c (tms c.a c.x D) D).bind fun E => amL (-c.c) (tms (neg c.a) c.x E) E) g n w0 w) := by
  obtain ⟨R, hR⟩ : ∃ R, R = amL c.c (tms c.a c.x D) D := ⟨_, rfl⟩
  have A1 := Lib.hid (fun W (k : Since w W) => by have := atMost_any v c g n D w0 W ((con_unveil h).since k) (hD.since k) ⟨hg.1, Nat.lt_of_lt_of_le hg.2 k.size⟩ hG hx hl ha hw hc; rw [← hR] at this; exact this)
  have N1 := Lib.hid (fun W (k : Og g w W) => negated_any v c W (con_unveil (h.since k.ve)) ha hw hc)
  have hin := tms_in (a := c.a) hG.rd hx
  have A2 := Lib.hid (fun E (he : R = some E) v' W (hE : DAt g n w0 W E) (hv : ConAt W v' ⟨c.k, c.x, neg c.a, -c.c⟩) (hgW : w.heap.size ≤ W.heap.size) => by
    obtain ⟨q0, q1, q2, q3⟩ := amL_some hG hin.1 hin.2 (hR.symm.trans he)
    exact atMost_any v' ⟨c.k, c.x, neg c.a, -c.c⟩ g n E w0 W hv hE ⟨hg.1, Nat.lt_of_lt_of_le hg.2 hgW⟩ q1 (isV_len q2.1.symm hx) (by simp only [neg_len]; exact hl) (by simp only [neg_len]; exact ha) (neg_within hw) (by simp only; omega))
  rw [← hR]
  clear hR hin
  obtain ⟨vx, vy, rfl, h1, h2⟩ := h
  obtain ⟨ck, cx, ca, cc⟩ := c
  simp only at *
  obtain ⟨X, xc, rfl⟩ := h1.form
  obtain ⟨Y, yc, rfl⟩ := h2.form
  generalize hnx : cx.length = nx at *
  generalize hny : ca.length = ny at *
  have ka := Lib.hid (since_alloc w (.cells #[.int .i64 ck, .slice X nx xc, .slice Y ny yc, .int .i64 cc] 25))
  have BC := Lib.hid (Bx.fresh w #[.int .i64 ck, .slice X nx xc, .slice Y ny yc, .int .i64 cc] 25)
  have NG := Lib.hid (show w.heap.size ≠ g by omega)
  clear h1 h2 hD hg hG hx hl ha hw hc hnx hny
  obtain ⟨b0, b1, b2, b3⟩ := bx4 BC.out
  cases R with
  | none =>
    clear A2 N1
    go_enter Try.func60, Try.ntmps60
    go_wp2_with (go_at_call 61; (with_reducible refine (A1.out _ ka.out).mono ?_); rintro e w1 ⟨rfl, q1, q2⟩; have Q2 := Lib.hid q2; clear q1 q2; simp only [Option.isSome])
    go_ret
    exact .no rfl ((Turn.of ka.out _ : Og g w _).trans Q2.out)
  | some E =>
    have A3 := Lib.hid (A2.out E rfl)
    show Calls _ _ _ _ (RetL (amL (-cc) (tms (neg ca) cx E) E) g n w0 w)
    generalize amL (-cc) (tms (neg ca) cx E) E = R2 at *
    clear A2
    go_enter Try.func60, Try.ntmps60
    go_wp2_with (first
      | (go_at_call 97; (with_reducible refine (N1.out _ Q2.out).mono ?_); rintro e w2 ⟨v', rfl, c2, k2⟩; have C2 := Lib.hid c2; have K2 := Lib.hid k2; have SZ := Lib.hid (Nat.le_trans Q2.out.size k2.size); obtain ⟨vx', va', rfl, -, -⟩ := c2; clear k2)
      | (go_at_call 61; (with_reducible refine (A3.out _ _ (Q1.out.since K2.out) C2.out SZ.out).mono ?_); rintro e w3 ⟨rfl, q3, q4⟩; have Q3 := Lib.hid q3; have Q4 := Lib.hid q4; clear q3 q4)
      | (go_at_call 61; (with_reducible refine (A1.out _ ka.out).mono ?_); rintro e w1 ⟨rfl, q1, q2⟩; have Q1 := Lib.hid (q1 E rfl); have Q2 := Lib.hid ((Turn.of ka.out _ : Og g w _).trans q2); obtain ⟨b0, b1, b2, b3⟩ := bx4 (q2.bx BC.out NG.out); clear q1 q2; simp only [Option.isSome]))
    go_ret
    exact ⟨rfl, Q3.out, Q2.out.trans ((Turn.of K2.out _ : Og g _ _).trans Q4.out)⟩
end
end Go.Proofs.Ytoegbgkgenjplaa.Ln
