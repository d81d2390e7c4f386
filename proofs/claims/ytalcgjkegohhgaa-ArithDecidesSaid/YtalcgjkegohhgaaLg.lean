/- Layer 12 (linear): the landed cut, atMost. -/
import Derived.Test.YtalcgjkegohhgaaQau
namespace Go.Proofs.Ytalcgjkegohhgaa.Ln
open Go.RowKit
set_option linter.unusedVariables false
set_option linter.unusedSimpArgs false
open Go.Proofs.Ytalcgjkegohhgaa.Dig Go.Proofs.Ytalcgjkegohhgaa.Lx Go.Proofs.Ytalcgjkegohhgaa.Tk Go.Proofs.Ytalcgjkegohhgaa.Ti Go.Proofs.Ytalcgjkegohhgaa.Zs Go.Proofs.Ytalcgjkegohhgaa.Tr Go.Proofs.Ytalcgjkegohhgaa.Sn
theorem quo_le {r n : Int} (hr : 0 ≤ r) (hn : 0 < n) : r.tdiv n = r / n ∧ 0 ≤ r / n ∧ r / n ≤ r := ⟨Int.tdiv_eq_ediv_of_nonneg hr, Int.ediv_nonneg hr (by omega), Int.ediv_le_self n hr⟩
theorem cut_at {B : Option Addr} {m cB : Nat} {d : List Rn} {w : World} (hS : Sl 2 QR w (.slice B m cB) d) (hr : right d = true) (W : World) (k : Since w W) (a b a' b' : Int) (ha : a' = a) (hb : b' = b) :
    Calls Try.prog 188 #[.slice B m cB, .int .i64 a', .int .i64 b'] W (fun e w' => ∃ A2 m2 c2, e = .returned (.slice A2 m2 c2) ∧ (cut d a b).length = m2 ∧ NewR w w' (.slice A2 m2 c2) (cut d a b) ∧ Since W w') := by
  subst ha hb
  exact (cut_new _ d a' b' W (hS.since stR k) (right_len hr) (okF_bd hr (Int.le_refl _))).mono fun _ _ h => by
    obtain ⟨A, m, c, h1, h2, h3, h4⟩ := newR_of h
    exact ⟨A, m, c, h1, h2, ⟨h3.1, fun b hb => ⟨Nat.le_trans k.size (h3.2 b hb).1, (h3.2 b hb).2⟩⟩, h4⟩
set_option maxRecDepth 20000 in
set_option maxHeartbeats 3000000 in
theorem cut_any (t : Tm) (r : Int) (g n : Nat) (D : Ds) (w0 w : World) (h : DAt g n w0 w D) (hg : w0.heap.size ≤ g ∧ g < w.heap.size) (hr : 0 ≤ r ∧ r ≤ 1125899906842624) (hb : Bt t) (hx : ∃ j : Nat, t.x = (j : Int) ∧ j < n) (hR : Rd D) :
    Calls Try.prog 137 #[.agg #[.int .i64 t.n, .int .i64 t.lo, .int .i64 t.hi, .int .i64 t.x], .int .i64 r, .slice (some ⟨g, 0, none⟩) n n] w (fun e w' => e = .returned (.tuple #[]) ∧ DAt g n w0 w' (cutT r t D) ∧ Og g w w') := by
  obtain ⟨tn, tl, th, tx⟩ := t
  obtain ⟨j, hj, hjn⟩ := hx
  simp only [Bt] at hj hb
  simp only
  subst hj
  obtain ⟨⟨b1, b2⟩, ⟨b3, b4⟩, ⟨b5, b6⟩, b7⟩ := hb
  obtain ⟨hr1, hr2⟩ := hr
  have hjl : j < D.length := by rw [h.len]; exact hjn
  have hdm : domAt D (j : Int) = D[j] := by simp [domAt, hjl]
  have hrd : right D[j] = true := hR _ (List.getElem_mem hjl)
  obtain ⟨A, c, e0, hS⟩ := h.get hjl
  have HH := Lib.hid h
  have HG := Lib.hid hg
  have hfz : w.frozen? ⟨g, j, none⟩ = false := h.no hjn
  have ka := Lib.hid (since_alloc w (.cells #[.int .i64 tn, .int .i64 tl, .int .i64 th, .int .i64 (j : Int)] 136))
  have BC := Lib.hid (Bx.fresh w #[.int .i64 tn, .int .i64 tl, .int .i64 th, .int .i64 (j : Int)] 136)
  have CC := Lib.hid (fun W (k : Since (w.alloc (.cells #[.int .i64 tn, .int .i64 tl, .int .i64 th, .int .i64 (j : Int)] 136)) W) => show W.cell? ⟨g, j, none⟩ = some (.slice A D[j].length c) from ((ka.out.trans k).cell _ (World.block_lt_of_cell? _ _ e0)).trans e0)
  have FZ := Lib.hid (fun W (k : Since (w.alloc (.cells #[.int .i64 tn, .int .i64 tl, .int .i64 th, .int .i64 (j : Int)] 136)) W) => (HH.out.since (ka.out.trans k)).no hjn)
  have PT := Lib.hid (fun W u d (k : Since (w.alloc (.cells #[.int .i64 tn, .int .i64 tl, .int .i64 th, .int .i64 (j : Int)] 136)) W) (hu : NewR w W u d) => HH.out.put2 (ka.out.trans k) hjn hu (Nat.le_of_lt (Nat.lt_of_le_of_lt HG.out.1 HG.out.2)) HG.out.2)
  have CU := Lib.hid (fun W (k : Since (w.alloc (.cells #[.int .i64 tn, .int .i64 tl, .int .i64 th, .int .i64 (j : Int)] 136)) W) a b a' b' ha hb => cut_at hS hrd W (ka.out.trans k) a b a' b' ha hb)
  by_cases c1 : 0 < tn
  · have E := Lib.hid (show cutT r ⟨tn, tl, th, (j : Int)⟩ D = D.set j (cut D[j] tl (tl + r / tn)) by simp only [cutT]; rw [if_pos c1, hdm]; rfl)
    obtain ⟨q1, q2, q3⟩ := quo_le hr1 c1
    have WE := Lib.hid (show IntKind.i64.wrap (tl + IntKind.i64.wrap (r / tn)) = tl + r / tn by rw [wrap_id' (x := r / tn) (by omega) (by omega), wrap_id' (by omega) (by omega)])
    have hne : tn ≠ 0 := by omega
    have hng : ¬ tn < 0 := by omega
    clear h hS e0 hfz hR hrd hdm
    rw [E.out]
    generalize D[j] = d at *
    generalize D[j].length = dl at *
    go_enter Try.func137, Try.ntmps137
    obtain ⟨r0, r1, r2, r3⟩ := bx4 BC.out
    go_wp2
    have hr0 : Since (w.alloc (.cells #[.int .i64 tn, .int .i64 tl, .int .i64 th, .int .i64 (j : Int)] 136)) (w.alloc (.cells #[.int .i64 tn, .int .i64 tl, .int .i64 th, .int .i64 (j : Int)] 136)).drew := Since.drew (Since.refl (w.alloc (.cells #[.int .i64 tn, .int .i64 tl, .int .i64 th, .int .i64 (j : Int)] 136)))
    refine wp_region_noPanic ?_
    refine Reg.wp_region_G (S := fun _ => True) (fun j => [19].contains j) (by kernel_rfl) trivial ?_
    refine' Reg.tk3 (i := 0) (v := _) (some 10) [18, 19] [19] rfl (Or.inl ⟨by rfl, Or.inl ?hy2⟩) ?rest2
    case hy2 => (intro w' kk ss; obtain ⟨x0, x1, x2', x3⟩ := bx4 (BC.out.since (hr0.trans kk)); have y0 := CC.out _ (hr0.trans kk); go_simp; first | done | with_reducible rfl)
    try simp only [Act.put, List.setIfInBounds_toArray, List.set_cons_zero, List.set_cons_succ]
    refine' Reg.tk3 (i := 1) (v := _) (some 11) [2, 18, 19] [19] rfl (Or.inl ⟨by rfl, Or.inl ?hy3⟩) ?rest3
    case hy3 => (intro w' kk ss; obtain ⟨x0, x1, x2', x3⟩ := bx4 (BC.out.since (hr0.trans kk)); have y0 := CC.out _ (hr0.trans kk); go_simp; first | done | with_reducible rfl)
    try simp only [Act.put, List.setIfInBounds_toArray, List.set_cons_zero, List.set_cons_succ]
    refine' Reg.tk3 (i := 2) (v := _) (some 12) [18, 19] [19] rfl (Or.inl ⟨by rfl, Or.inl ?hy4⟩) ?rest4
    case hy4 => (intro w' kk ss; obtain ⟨x0, x1, x2', x3⟩ := bx4 (BC.out.since (hr0.trans kk)); have y0 := CC.out _ (hr0.trans kk); go_simp; first | done | with_reducible rfl)
    try simp only [Act.put, List.setIfInBounds_toArray, List.set_cons_zero, List.set_cons_succ]
    refine' Reg.tk3 (i := 3) (v := _) (some 13) [6, 7, 17, 18, 19] [19] rfl (Or.inl ⟨by rfl, Or.inl ?hy5⟩) ?rest5
    case hy5 => (intro w' kk ss; obtain ⟨x0, x1, x2', x3⟩ := bx4 (BC.out.since (hr0.trans kk)); have y0 := CC.out _ (hr0.trans kk); go_simp; first | done | with_reducible rfl)
    try simp only [Act.put, List.setIfInBounds_toArray, List.set_cons_zero, List.set_cons_succ]
    refine' Reg.tk3 (i := 4) (v := _) (some 14) [5, 6, 7, 17, 18, 19] [19] rfl (Or.inl ⟨by rfl, Or.inl ?hy6⟩) ?rest6
    case hy6 => (intro w' kk ss; obtain ⟨x0, x1, x2', x3⟩ := bx4 (BC.out.since (hr0.trans kk)); have y0 := CC.out _ (hr0.trans kk); go_simp; first | done | with_reducible rfl)
    try simp only [Act.put, List.setIfInBounds_toArray, List.set_cons_zero, List.set_cons_succ]
    refine' Reg.tk3 (i := 5) (v := _) (some 15) [6, 7, 17, 18, 19] [19] rfl (Or.inl ⟨by rfl, Or.inl ?hy7⟩) ?rest7
    case hy7 => (intro w' kk ss; obtain ⟨x0, x1, x2', x3⟩ := bx4 (BC.out.since (hr0.trans kk)); have y0 := CC.out _ (hr0.trans kk); go_simp; first | done | with_reducible rfl)
    try simp only [Act.put, List.setIfInBounds_toArray, List.set_cons_zero, List.set_cons_succ]
    refine' Reg.tk3 (i := 6) (v := _) (some 16) [7, 17, 18, 19] [19] rfl (Or.inl ⟨by rfl, Or.inl ?hy8⟩) ?rest8
    case hy8 => (intro w' kk ss; obtain ⟨x0, x1, x2', x3⟩ := bx4 (BC.out.since (hr0.trans kk)); have y0 := CC.out _ (hr0.trans kk); go_simp; first | done | with_reducible rfl)
    try simp only [Act.put, List.setIfInBounds_toArray, List.set_cons_zero, List.set_cons_succ]
    refine' Reg.tk3 (i := 7) (v := _) (some 17) [17, 18, 19] [19] rfl (Or.inl ⟨by rfl, Or.inl ?hy9⟩) ?rest9
    case hy9 => (intro w' kk ss; obtain ⟨x0, x1, x2', x3⟩ := bx4 (BC.out.since (hr0.trans kk)); have y0 := CC.out _ (hr0.trans kk); go_simp; first | done | with_reducible rfl)
    try simp only [Act.put, List.setIfInBounds_toArray, List.set_cons_zero, List.set_cons_succ]
    refine' Reg.tk3 (i := 8) (v := _) (some 18) [9, 17, 18, 19] [19] rfl (Or.inl ⟨by rfl, Or.inl ?hy10⟩) ?rest10
    case hy10 => (intro w' kk ss; obtain ⟨x0, x1, x2', x3⟩ := bx4 (BC.out.since (hr0.trans kk)); have y0 := CC.out _ (hr0.trans kk); go_simp; first | done | with_reducible rfl)
    try simp only [Act.put, List.setIfInBounds_toArray, List.set_cons_zero, List.set_cons_succ]
    refine' Reg.tk3 (i := 9) (v := _) (some 19) [17, 18, 19] [19] rfl (Or.inl ⟨by rfl, Or.inl ?hy11⟩) ?rest11
    case hy11 => (intro w' kk ss; obtain ⟨x0, x1, x2', x3⟩ := bx4 (BC.out.since (hr0.trans kk)); have y0 := CC.out _ (hr0.trans kk); go_simp; first | done | with_reducible rfl)
    try simp only [Act.put, List.setIfInBounds_toArray, List.set_cons_zero, List.set_cons_succ]
    refine' Reg.tk3 (i := 10) (v := _) (some 20) [11, 16, 17, 18, 19] [19] rfl (Or.inl ⟨by rfl, Or.inl ?hy12⟩) ?rest12
    case hy12 => (intro w' kk ss; obtain ⟨x0, x1, x2', x3⟩ := bx4 (BC.out.since (hr0.trans kk)); have y0 := CC.out _ (hr0.trans kk); go_simp; first | done | with_reducible rfl)
    try simp only [Act.put, List.setIfInBounds_toArray, List.set_cons_zero, List.set_cons_succ]
    refine' Reg.tk3 (i := 11) (v := _) (some 21) [16, 17, 18, 19] [19] rfl (Or.inl ⟨by rfl, Or.inl ?hy13⟩) ?rest13
    case hy13 => (intro w' kk ss; obtain ⟨x0, x1, x2', x3⟩ := bx4 (BC.out.since (hr0.trans kk)); have y0 := CC.out _ (hr0.trans kk); go_simp; first | done | with_reducible rfl)
    try simp only [Act.put, List.setIfInBounds_toArray, List.set_cons_zero, List.set_cons_succ]
    refine' Reg.tk3 (i := 12) (v := _) (some 22) [15, 16, 17, 18, 19] [19] rfl (Or.inl ⟨by rfl, Or.inl ?hy14⟩) ?rest14
    case hy14 => (intro w' kk ss; obtain ⟨x0, x1, x2', x3⟩ := bx4 (BC.out.since (hr0.trans kk)); have y0 := CC.out _ (hr0.trans kk); go_simp; first | done | with_reducible rfl)
    try simp only [Act.put, List.setIfInBounds_toArray, List.set_cons_zero, List.set_cons_succ]
    refine' Reg.tk3 (i := 13) (v := _) (some 23) [14, 15, 16, 17, 18, 19] [19] rfl (Or.inl ⟨by rfl, Or.inl ?hy15⟩) ?rest15
    case hy15 => (intro w' kk ss; obtain ⟨x0, x1, x2', x3⟩ := bx4 (BC.out.since (hr0.trans kk)); have y0 := CC.out _ (hr0.trans kk); go_simp; first | done | with_reducible rfl)
    try simp only [Act.put, List.setIfInBounds_toArray, List.set_cons_zero, List.set_cons_succ]
    refine' Reg.tk3 (i := 14) (v := _) (some 24) [15, 16, 17, 18, 19] [19] rfl (Or.inl ⟨by rfl, Or.inl ?hy16⟩) ?rest16
    case hy16 => (intro w' kk ss; obtain ⟨x0, x1, x2', x3⟩ := bx4 (BC.out.since (hr0.trans kk)); have y0 := CC.out _ (hr0.trans kk); go_simp; first | done | with_reducible rfl)
    try simp only [Act.put, List.setIfInBounds_toArray, List.set_cons_zero, List.set_cons_succ]
    refine' Reg.tk3 (i := 15) (v := _) (some 25) [16, 17, 18, 19] [19] rfl (Or.inl ⟨by rfl, Or.inl ?hy17⟩) ?rest17
    case hy17 => (intro w' kk ss; obtain ⟨x0, x1, x2', x3⟩ := bx4 (BC.out.since (hr0.trans kk)); have y0 := CC.out _ (hr0.trans kk); go_simp; first | done | with_reducible rfl)
    try simp only [Act.put, List.setIfInBounds_toArray, List.set_cons_zero, List.set_cons_succ]
    refine' Reg.tk3 (i := 16) (v := _) (some 26) [17, 18, 19] [19] rfl (Or.inl ⟨by rfl, Or.inl ?hy18⟩) ?rest18
    case hy18 => (intro w' kk ss; obtain ⟨x0, x1, x2', x3⟩ := bx4 (BC.out.since (hr0.trans kk)); have y0 := CC.out _ (hr0.trans kk); go_simp; first | done | with_reducible rfl)
    try simp only [Act.put, List.setIfInBounds_toArray, List.set_cons_zero, List.set_cons_succ]
    refine Reg.wpG_ready (rs := [17]) (by kernel_rfl) (by simp) (fun wq1001 k1001' sq1001 => ?_)
    have hr0 := hr0.trans k1001'
    refine Reg.AllG.first (o := { dst := some 27, op := Op.call { callee := Callee.value (Operand.func 188), args := #[Operand.tmp 17, Operand.tmp 19, Operand.tmp 26], argTypes := #[33, 2, 2] }, type := 33, pos := "bound.go:31", after := #[{ on := 7, ground := Ground.data }, { on := 9, ground := Ground.data }, { on := 16, ground := Ground.data }], guard := none }) rfl (by rfl) (fun K hK => ?_) Reg.AllG.nil
    go_simp
    (with_reducible refine (CU.out wq1001 hr0 (tl) (tl + r / tn) _ _ rfl WE.out).mono ?_)
    rintro e y1001 ⟨A2, m2, c2, rfl, hm2, q1, hx⟩
    refine hK.out _ _ trivial hx ?_
    clear hK K
    have hr0 := hr0.trans hx
    clear hx
    try simp only [Act.put, List.setIfInBounds_toArray, List.set_cons_zero, List.set_cons_succ]
    refine' Reg.tk3 (i := 18) (v := _) (some 28) [19] [19] rfl (Or.inl ⟨by rfl, Or.inl ?hy19⟩) ?rest19
    case hy19 => (intro w' kk ss; obtain ⟨x0, x1, x2', x3⟩ := bx4 (BC.out.since (hr0.trans kk)); have y0 := CC.out _ (hr0.trans kk); go_simp; first | done | with_reducible rfl)
    try simp only [Act.put, List.setIfInBounds_toArray, List.set_cons_zero, List.set_cons_succ]
    refine Reg.wpG_ready (rs := [19]) (by kernel_rfl) (by simp) (fun wq k1002' sq => ?_)
    have hr0 := hr0.trans k1002'
    have q1 := q1.since k1002'
    refine Reg.AllG.last (o := { dst := none, op := Op.store 33 (Operand.tmp 28) (Operand.tmp 27), type := 0, pos := "bound.go:31", after := #[{ on := 18, ground := Ground.data }, { on := 17, ground := Ground.data }, { on := 17, ground := Ground.chain }, { on := 0, ground := Ground.phase }, { on := 1, ground := Ground.phase }, { on := 2, ground := Ground.phase }, { on := 3, ground := Ground.phase }, { on := 4, ground := Ground.phase }, { on := 5, ground := Ground.phase }, { on := 6, ground := Ground.phase }, { on := 7, ground := Ground.phase }, { on := 8, ground := Ground.phase }, { on := 9, ground := Ground.phase }, { on := 10, ground := Ground.phase }, { on := 11, ground := Ground.phase }, { on := 12, ground := Ground.phase }, { on := 13, ground := Ground.phase }, { on := 14, ground := Ground.phase }, { on := 15, ground := Ground.phase }, { on := 16, ground := Ground.phase }, { on := 17, ground := Ground.phase }], guard := none }) rfl (by rfl) (fun K hK => ?_) Reg.AllG.nil
    have PU := PT.out _ _ _ hr0 q1
    have z0 := CC.out _ hr0
    have zf := FZ.out _ hr0
    obtain ⟨x0, x1, x2', x3⟩ := bx4 (BC.out.since hr0)
    go_simp
    refine hK.out _ _ trivial (fun hHeld => ?_)
    clear hK K
    try simp only [Act.put, List.setIfInBounds_toArray, List.set_cons_zero, List.set_cons_succ]
    refine wpAnyH_done (by kernel_rfl) ?_ _
    refine NoPanic.normal ?_
    go_wp2
    refine bodyPost_end (results_none rfl _ _ _) rfl ?_
    exact ⟨rfl, PU, Og.put (Turn.of (ka.out.trans hr0) _) j _⟩
  · by_cases c2 : tn < 0
    · have E := Lib.hid (show cutT r ⟨tn, tl, th, (j : Int)⟩ D = D.set j (cut D[j] (th - r / (-tn)) th) by simp only [cutT]; rw [if_neg c1, if_pos c2, hdm]; rfl)
      obtain ⟨q, hq⟩ : ∃ q, q = -tn := ⟨_, rfl⟩
      rw [← hq] at E
      obtain ⟨q1, q2, q3⟩ := quo_le hr1 (show 0 < q by omega)
      have WN : IntKind.i64.wrap (-tn) = q := by rw [hq]; exact wrap_id' (by omega) (by omega)
      have WE := Lib.hid (show IntKind.i64.wrap (th - IntKind.i64.wrap (r / q)) = th - r / q by rw [wrap_id' (x := r / q) (by omega) (by omega), wrap_id' (by omega) (by omega)])
      have hne : q ≠ 0 := by omega
      clear hq
      clear h hS e0 hfz hR hrd hdm
      rw [E.out]
      generalize D[j] = d at *
      go_enter Try.func137, Try.ntmps137
      obtain ⟨r0, r1, r2, r3⟩ := bx4 BC.out
      go_wp2
      have hr0 : Since (w.alloc (.cells #[.int .i64 tn, .int .i64 tl, .int .i64 th, .int .i64 (j : Int)] 136)) (w.alloc (.cells #[.int .i64 tn, .int .i64 tl, .int .i64 th, .int .i64 (j : Int)] 136)).drew := Since.drew (Since.refl (w.alloc (.cells #[.int .i64 tn, .int .i64 tl, .int .i64 th, .int .i64 (j : Int)] 136)))
      refine wp_region_noPanic ?_
      refine Reg.wp_region_G (S := fun _ => True) (fun j => [20].contains j) (by kernel_rfl) trivial ?_
      refine' Reg.tk3 (i := 0) (v := _) (some 33) [19, 20] [20] rfl (Or.inl ⟨by rfl, Or.inl ?hy21⟩) ?rest21
      case hy21 => (intro w' kk ss; obtain ⟨x0, x1, x2', x3⟩ := bx4 (BC.out.since (hr0.trans kk)); have y0 := CC.out _ (hr0.trans kk); go_simp; first | done | with_reducible rfl)
      try simp only [Act.put, List.setIfInBounds_toArray, List.set_cons_zero, List.set_cons_succ]
      refine' Reg.tk3 (i := 1) (v := _) (some 34) [2, 19, 20] [20] rfl (Or.inl ⟨by rfl, Or.inl ?hy22⟩) ?rest22
      case hy22 => (intro w' kk ss; obtain ⟨x0, x1, x2', x3⟩ := bx4 (BC.out.since (hr0.trans kk)); have y0 := CC.out _ (hr0.trans kk); go_simp; first | done | with_reducible rfl)
      try simp only [Act.put, List.setIfInBounds_toArray, List.set_cons_zero, List.set_cons_succ]
      refine' Reg.tk3 (i := 2) (v := _) (some 35) [19, 20] [20] rfl (Or.inl ⟨by rfl, Or.inl ?hy23⟩) ?rest23
      case hy23 => (intro w' kk ss; obtain ⟨x0, x1, x2', x3⟩ := bx4 (BC.out.since (hr0.trans kk)); have y0 := CC.out _ (hr0.trans kk); go_simp; first | done | with_reducible rfl)
      try simp only [Act.put, List.setIfInBounds_toArray, List.set_cons_zero, List.set_cons_succ]
      refine' Reg.tk3 (i := 3) (v := _) (some 36) [6, 7, 18, 19, 20] [20] rfl (Or.inl ⟨by rfl, Or.inl ?hy24⟩) ?rest24
      case hy24 => (intro w' kk ss; obtain ⟨x0, x1, x2', x3⟩ := bx4 (BC.out.since (hr0.trans kk)); have y0 := CC.out _ (hr0.trans kk); go_simp; first | done | with_reducible rfl)
      try simp only [Act.put, List.setIfInBounds_toArray, List.set_cons_zero, List.set_cons_succ]
      refine' Reg.tk3 (i := 4) (v := _) (some 37) [5, 6, 7, 18, 19, 20] [20] rfl (Or.inl ⟨by rfl, Or.inl ?hy25⟩) ?rest25
      case hy25 => (intro w' kk ss; obtain ⟨x0, x1, x2', x3⟩ := bx4 (BC.out.since (hr0.trans kk)); have y0 := CC.out _ (hr0.trans kk); go_simp; first | done | with_reducible rfl)
      try simp only [Act.put, List.setIfInBounds_toArray, List.set_cons_zero, List.set_cons_succ]
      refine' Reg.tk3 (i := 5) (v := _) (some 38) [6, 7, 18, 19, 20] [20] rfl (Or.inl ⟨by rfl, Or.inl ?hy26⟩) ?rest26
      case hy26 => (intro w' kk ss; obtain ⟨x0, x1, x2', x3⟩ := bx4 (BC.out.since (hr0.trans kk)); have y0 := CC.out _ (hr0.trans kk); go_simp; first | done | with_reducible rfl)
      try simp only [Act.put, List.setIfInBounds_toArray, List.set_cons_zero, List.set_cons_succ]
      refine' Reg.tk3 (i := 6) (v := _) (some 39) [7, 18, 19, 20] [20] rfl (Or.inl ⟨by rfl, Or.inl ?hy27⟩) ?rest27
      case hy27 => (intro w' kk ss; obtain ⟨x0, x1, x2', x3⟩ := bx4 (BC.out.since (hr0.trans kk)); have y0 := CC.out _ (hr0.trans kk); go_simp; first | done | with_reducible rfl)
      try simp only [Act.put, List.setIfInBounds_toArray, List.set_cons_zero, List.set_cons_succ]
      refine' Reg.tk3 (i := 7) (v := _) (some 40) [18, 19, 20] [20] rfl (Or.inl ⟨by rfl, Or.inl ?hy28⟩) ?rest28
      case hy28 => (intro w' kk ss; obtain ⟨x0, x1, x2', x3⟩ := bx4 (BC.out.since (hr0.trans kk)); have y0 := CC.out _ (hr0.trans kk); go_simp; first | done | with_reducible rfl)
      try simp only [Act.put, List.setIfInBounds_toArray, List.set_cons_zero, List.set_cons_succ]
      refine' Reg.tk3 (i := 8) (v := _) (some 41) [9, 15, 18, 19, 20] [20] rfl (Or.inl ⟨by rfl, Or.inl ?hy29⟩) ?rest29
      case hy29 => (intro w' kk ss; obtain ⟨x0, x1, x2', x3⟩ := bx4 (BC.out.since (hr0.trans kk)); have y0 := CC.out _ (hr0.trans kk); go_simp; first | done | with_reducible rfl)
      try simp only [Act.put, List.setIfInBounds_toArray, List.set_cons_zero, List.set_cons_succ]
      refine' Reg.tk3 (i := 9) (v := _) (some 42) [15, 18, 19, 20] [20] rfl (Or.inl ⟨by rfl, Or.inl ?hy30⟩) ?rest30
      case hy30 => (intro w' kk ss; obtain ⟨x0, x1, x2', x3⟩ := bx4 (BC.out.since (hr0.trans kk)); have y0 := CC.out _ (hr0.trans kk); go_simp; first | done | with_reducible rfl)
      try simp only [Act.put, List.setIfInBounds_toArray, List.set_cons_zero, List.set_cons_succ]
      refine' Reg.tk3 (i := 10) (v := _) (some 43) [14, 15, 18, 19, 20] [20] rfl (Or.inl ⟨by rfl, Or.inl ?hy31⟩) ?rest31
      case hy31 => (intro w' kk ss; obtain ⟨x0, x1, x2', x3⟩ := bx4 (BC.out.since (hr0.trans kk)); have y0 := CC.out _ (hr0.trans kk); go_simp; first | done | with_reducible rfl)
      try simp only [Act.put, List.setIfInBounds_toArray, List.set_cons_zero, List.set_cons_succ]
      refine' Reg.tk3 (i := 11) (v := _) (some 44) [12, 13, 14, 15, 18, 19, 20] [20] rfl (Or.inl ⟨by rfl, Or.inl ?hy32⟩) ?rest32
      case hy32 => (intro w' kk ss; obtain ⟨x0, x1, x2', x3⟩ := bx4 (BC.out.since (hr0.trans kk)); have y0 := CC.out _ (hr0.trans kk); go_simp; first | done | with_reducible rfl)
      try simp only [Act.put, List.setIfInBounds_toArray, List.set_cons_zero, List.set_cons_succ]
      refine' Reg.tk3 (i := 12) (v := _) (some 45) [13, 14, 15, 18, 19, 20] [20] rfl (Or.inl ⟨by rfl, Or.inl ?hy33⟩) ?rest33
      case hy33 => (intro w' kk ss; obtain ⟨x0, x1, x2', x3⟩ := bx4 (BC.out.since (hr0.trans kk)); have y0 := CC.out _ (hr0.trans kk); go_simp; first | done | with_reducible rfl)
      try simp only [Act.put, List.setIfInBounds_toArray, List.set_cons_zero, List.set_cons_succ]
      refine' Reg.tk3 (i := 13) (v := _) (some 46) [14, 15, 18, 19, 20] [20] rfl (Or.inl ⟨by rfl, Or.inl ?hy34⟩) ?rest34
      case hy34 => (intro w' kk ss; obtain ⟨x0, x1, x2', x3⟩ := bx4 (BC.out.since (hr0.trans kk)); have y0 := CC.out _ (hr0.trans kk); go_simp; first | done | with_reducible rfl)
      try simp only [Act.put, List.setIfInBounds_toArray, List.set_cons_zero, List.set_cons_succ]
      refine' Reg.tk3 (i := 14) (v := _) (some 47) [15, 18, 19, 20] [20] rfl (Or.inl ⟨by rfl, Or.inl ?hy35⟩) ?rest35
      case hy35 => (intro w' kk ss; obtain ⟨x0, x1, x2', x3⟩ := bx4 (BC.out.since (hr0.trans kk)); have y0 := CC.out _ (hr0.trans kk); go_simp; first | done | with_reducible rfl)
      try simp only [Act.put, List.setIfInBounds_toArray, List.set_cons_zero, List.set_cons_succ]
      refine' Reg.tk3 (i := 15) (v := _) (some 48) [18, 19, 20] [20] rfl (Or.inl ⟨by rfl, Or.inl ?hy36⟩) ?rest36
      case hy36 => (intro w' kk ss; obtain ⟨x0, x1, x2', x3⟩ := bx4 (BC.out.since (hr0.trans kk)); have y0 := CC.out _ (hr0.trans kk); go_simp; first | done | with_reducible rfl)
      try simp only [Act.put, List.setIfInBounds_toArray, List.set_cons_zero, List.set_cons_succ]
      refine' Reg.tk3 (i := 16) (v := _) (some 49) [17, 18, 19, 20] [20] rfl (Or.inl ⟨by rfl, Or.inl ?hy37⟩) ?rest37
      case hy37 => (intro w' kk ss; obtain ⟨x0, x1, x2', x3⟩ := bx4 (BC.out.since (hr0.trans kk)); have y0 := CC.out _ (hr0.trans kk); go_simp; first | done | with_reducible rfl)
      try simp only [Act.put, List.setIfInBounds_toArray, List.set_cons_zero, List.set_cons_succ]
      refine' Reg.tk3 (i := 17) (v := _) (some 50) [18, 19, 20] [20] rfl (Or.inl ⟨by rfl, Or.inl ?hy38⟩) ?rest38
      case hy38 => (intro w' kk ss; obtain ⟨x0, x1, x2', x3⟩ := bx4 (BC.out.since (hr0.trans kk)); have y0 := CC.out _ (hr0.trans kk); go_simp; first | done | with_reducible rfl)
      try simp only [Act.put, List.setIfInBounds_toArray, List.set_cons_zero, List.set_cons_succ]
      refine Reg.wpG_ready (rs := [18]) (by kernel_rfl) (by simp) (fun wq20001 k20001' sq20001 => ?_)
      have hr0 := hr0.trans k20001'
      refine Reg.AllG.first (o := { dst := some 51, op := Op.call { callee := Callee.value (Operand.func 188), args := #[Operand.tmp 40, Operand.tmp 48, Operand.tmp 50], argTypes := #[33, 2, 2] }, type := 33, pos := "bound.go:33", after := #[{ on := 7, ground := Ground.data }, { on := 15, ground := Ground.data }, { on := 17, ground := Ground.data }], guard := none }) rfl (by rfl) (fun K hK => ?_) Reg.AllG.nil
      go_simp
      (with_reducible refine (CU.out wq20001 hr0 (th - r / q) (th) _ _ WE.out rfl).mono ?_)
      rintro e y20001 ⟨A2, m2, c2, rfl, hm2, q1, hx⟩
      refine hK.out _ _ trivial hx ?_
      clear hK K
      have hr0 := hr0.trans hx
      clear hx
      try simp only [Act.put, List.setIfInBounds_toArray, List.set_cons_zero, List.set_cons_succ]
      refine' Reg.tk3 (i := 19) (v := _) (some 52) [20] [20] rfl (Or.inl ⟨by rfl, Or.inl ?hy39⟩) ?rest39
      case hy39 => (intro w' kk ss; obtain ⟨x0, x1, x2', x3⟩ := bx4 (BC.out.since (hr0.trans kk)); have y0 := CC.out _ (hr0.trans kk); go_simp; first | done | with_reducible rfl)
      try simp only [Act.put, List.setIfInBounds_toArray, List.set_cons_zero, List.set_cons_succ]
      refine Reg.wpG_ready (rs := [20]) (by kernel_rfl) (by simp) (fun wq k20002' sq => ?_)
      have hr0 := hr0.trans k20002'
      have q1 := q1.since k20002'
      refine Reg.AllG.last (o := { dst := none, op := Op.store 33 (Operand.tmp 52) (Operand.tmp 51), type := 0, pos := "bound.go:33", after := #[{ on := 19, ground := Ground.data }, { on := 18, ground := Ground.data }, { on := 18, ground := Ground.chain }, { on := 0, ground := Ground.phase }, { on := 1, ground := Ground.phase }, { on := 2, ground := Ground.phase }, { on := 3, ground := Ground.phase }, { on := 4, ground := Ground.phase }, { on := 5, ground := Ground.phase }, { on := 6, ground := Ground.phase }, { on := 7, ground := Ground.phase }, { on := 8, ground := Ground.phase }, { on := 9, ground := Ground.phase }, { on := 10, ground := Ground.phase }, { on := 11, ground := Ground.phase }, { on := 12, ground := Ground.phase }, { on := 13, ground := Ground.phase }, { on := 14, ground := Ground.phase }, { on := 15, ground := Ground.phase }, { on := 16, ground := Ground.phase }, { on := 17, ground := Ground.phase }, { on := 18, ground := Ground.phase }], guard := none }) rfl (by rfl) (fun K hK => ?_) Reg.AllG.nil
      have PU := PT.out _ _ _ hr0 q1
      have z0 := CC.out _ hr0
      have zf := FZ.out _ hr0
      obtain ⟨x0, x1, x2', x3⟩ := bx4 (BC.out.since hr0)
      go_simp
      refine hK.out _ _ trivial (fun hHeld => ?_)
      clear hK K
      try simp only [Act.put, List.setIfInBounds_toArray, List.set_cons_zero, List.set_cons_succ]
      refine wpAnyH_done (by kernel_rfl) ?_ _
      refine NoPanic.normal ?_
      go_wp2
      refine bodyPost_end (results_none rfl _ _ _) rfl ?_
      exact ⟨rfl, PU, Og.put (Turn.of (ka.out.trans hr0) _) j _⟩
    · have E := Lib.hid (show cutT r ⟨tn, tl, th, (j : Int)⟩ D = D by simp only [cutT]; rw [if_neg c1, if_neg c2])
      rw [E.out]
      clear h hS e0 hfz hR hrd hdm
      go_enter Try.func137, Try.ntmps137
      obtain ⟨r0, r1, r2, r3⟩ := bx4 BC.out
      go_wp2
      refine bodyPost_end (results_none rfl _ _ _) rfl ?_
      exact ⟨rfl, HH.out.since ka.out, Turn.of ka.out _⟩
section
open Go.RowKit
set_option linter.unusedVariables false
set_option linter.unusedSimpArgs false
open Go.Proofs.Ytalcgjkegohhgaa.Dig Go.Proofs.Ytalcgjkegohhgaa.Lx Go.Proofs.Ytalcgjkegohhgaa.Tk Go.Proofs.Ytalcgjkegohhgaa.Ti Go.Proofs.Ytalcgjkegohhgaa.Zs Go.Proofs.Ytalcgjkegohhgaa.Tr Go.Proofs.Ytalcgjkegohhgaa.Sn
/-- the call has narrowed the domains in the block g to R, or says that there is no R -/
def RetL (R : Option Ds) (g n : Nat) (w0 w : World) (e : Ending) (w' : World) : Prop := e = .returned (.bool R.isSome) ∧ (∀ E, R = some E → DAt g n w0 w' E) ∧ Og g w w'
theorem RetL.no {R : Option Ds} {g n : Nat} {w0 w w' : World} (h : R = none) (k : Og g w w') : RetL R g n w0 w (.returned (.bool false)) w' := by subst h; exact ⟨rfl, fun E h => (by cases h), k⟩
theorem RetL.yes {R : Option Ds} {E : Ds} {g n : Nat} {w0 w w' : World} (h : R = some E) (hE : DAt g n w0 w' E) (k : Og g w w') : RetL R g n w0 w (.returned (.bool true)) w' := by subst h; exact ⟨rfl, fun E' h => by cases h; exact hE, k⟩
end
section
open Go.RowKit
set_option linter.unusedVariables false
set_option linter.unusedSimpArgs false
open Go.Proofs.Ytalcgjkegohhgaa.Dig Go.Proofs.Ytalcgjkegohhgaa.Lx Go.Proofs.Ytalcgjkegohhgaa.Tk Go.Proofs.Ytalcgjkegohhgaa.Ti Go.Proofs.Ytalcgjkegohhgaa.Zs Go.Proofs.Ytalcgjkegohhgaa.Tr Go.Proofs.Ytalcgjkegohhgaa.Sn
/-- a row of numbers in blocks from n on -/
def Rzz (n : Nat) (w : World) (v : Value) (xs : List Int) : Prop := ∃ cs, w.ownsRow n 2 1 v xs.length cs ∧ Rws 1 QI0 xs cs
theorem Rzz.set {n : Nat} {w : World} {v : Value} {xs : List Int} (h : Rzz n w v xs) {a : Addr} (ha : a.block < n) (u : Value) : Rzz n (w.setCell a u) v xs := by
  obtain ⟨cs, h1, h2⟩ := h
  exact ⟨cs, ownsRow_setCell_below h1 ha u, h2⟩
theorem Rzz.since {n : Nat} {w w' : World} {v : Value} {xs : List Int} (h : Rzz n w v xs) (k : Since w w') : Rzz n w' v xs := by
  obtain ⟨cs, h1, h2⟩ := h
  exact ⟨cs, owns_since h1 k, h2⟩
theorem Rzz.sl {n : Nat} {w : World} {v : Value} {xs : List Int} (h : Rzz n w v xs) : Sl 1 QI w v xs := by
  obtain ⟨cs, h1, h2⟩ := h
  have : Sl 1 (fun _ => QI0) w v xs := Sl.own h1 h2 rfl
  exact this
end
section
open Go.RowKit
set_option linter.unusedVariables false
set_option linter.unusedSimpArgs false
open Go.Proofs.Ytalcgjkegohhgaa.Dig Go.Proofs.Ytalcgjkegohhgaa.Lx Go.Proofs.Ytalcgjkegohhgaa.Tk Go.Proofs.Ytalcgjkegohhgaa.Ti Go.Proofs.Ytalcgjkegohhgaa.Zs Go.Proofs.Ytalcgjkegohhgaa.Tr Go.Proofs.Ytalcgjkegohhgaa.Sn
end
end Go.Proofs.Ytalcgjkegohhgaa.Ln
