/- Layer 13 (reify): the document's own narrow where the flag is open, the other part. -/
import Derived.Test.YtoegbgkgenjplaaWh
namespace Go.Proofs.Ytoegbgkgenjplaa.Rf
open Go.RowKit
set_option linter.unusedVariables false
set_option linter.unusedSimpArgs false
open Go.Proofs.Ytoegbgkgenjplaa.Dig Go.Proofs.Ytoegbgkgenjplaa.Lx Go.Proofs.Ytoegbgkgenjplaa.Tk Go.Proofs.Ytoegbgkgenjplaa.Ti Go.Proofs.Ytoegbgkgenjplaa.Zs Go.Proofs.Ytoegbgkgenjplaa.Tr Go.Proofs.Ytoegbgkgenjplaa.Sn Go.Proofs.Ytoegbgkgenjplaa.Ln
set_option maxRecDepth 20000 in
set_option maxHeartbeats 4000000 in
theorem rn_c4 (v vd : Value) (c : Cn) (ds : Ln.Ds) (w : World) (h : ConAt w v c) (hd : Sl 1 QD w vd ds) (hm : modOk ⟨ds, [c], 0, 0⟩ = true) (hk : 4 ≤ c.k ∧ c.k ≤ 6) (h0 : domAt ds (fl c.x) = [(0, 1)]) (hk4 : c.k = 4) (hlg : lsum (tms c.a c.x ds) ≤ gsum (tms c.a c.x ds)) :
    Calls Try.prog 74 #[v, vd] w (RetK (reiL c.k c.c c.a c.x ds) w) := by
  obtain ⟨m1, m2, m3⟩ := mod_parts hm
  have hp := flg_parts m1 m3 hk
  obtain ⟨F, hF⟩ : ∃ F : Nat, fl c.x = (F : Int) := ⟨(fl c.x).toNat, by have := hp.inx; omega⟩
  have hFl : F < ds.length := by have := hp.inx; omega
  have hdF : ds[F]? = some [(0, 1)] := by rw [hF, domAt_lt (by exact hFl)] at h0; rw [List.getElem?_eq_getElem hFl]; exact congrArg some h0
  have HC : (c.k = 4 ∧ lsum (tms c.a c.x ds) = c.c ∧ gsum (tms c.a c.x ds) = c.c ∧ reiL c.k c.c c.a c.x ds = some (ds.set F (without [(0, 1)] 0))) ∨ (c.k = 4 ∧ lsum (tms c.a c.x ds) = c.c ∧ ¬ gsum (tms c.a c.x ds) = c.c ∧ ¬ gsum (tms c.a c.x ds) < c.c ∧ ¬ lsum (tms c.a c.x ds) > c.c ∧ reiL c.k c.c c.a c.x ds = some ds) ∨ (c.k = 4 ∧ ¬ lsum (tms c.a c.x ds) = c.c ∧ lsum (tms c.a c.x ds) > c.c ∧ reiL c.k c.c c.a c.x ds = some (ds.set F (without [(0, 1)] 1))) ∨ (c.k = 4 ∧ ¬ lsum (tms c.a c.x ds) = c.c ∧ ¬ lsum (tms c.a c.x ds) > c.c ∧ gsum (tms c.a c.x ds) < c.c ∧ reiL c.k c.c c.a c.x ds = some (ds.set F (without [(0, 1)] 1))) ∨ (c.k = 4 ∧ ¬ lsum (tms c.a c.x ds) = c.c ∧ ¬ lsum (tms c.a c.x ds) > c.c ∧ ¬ gsum (tms c.a c.x ds) < c.c ∧ reiL c.k c.c c.a c.x ds = some ds) := by
    have r0 : (c.k = 4) → (lsum (tms c.a c.x ds) = c.c) → (gsum (tms c.a c.x ds) = c.c) → reiL c.k c.c c.a c.x ds = some (ds.set F (without [(0, 1)] 0)) := by
      intro g0 g1 g2
      rw [reiL, if_neg (by rw [h0]; decide), if_neg (by rw [h0]; decide), dcd, show alw c.k c.c (lsum (tms c.a c.x ds)) (gsum (tms c.a c.x ds)) = true by (unfold alw; simp; omega)]; rw [if_pos rfl, h0, hF]; rfl
    have r1 : (c.k = 4) → (lsum (tms c.a c.x ds) = c.c) → (¬ gsum (tms c.a c.x ds) = c.c) → (¬ gsum (tms c.a c.x ds) < c.c) → (¬ lsum (tms c.a c.x ds) > c.c) → reiL c.k c.c c.a c.x ds = some ds := by
      intro g0 g1 g2 g3 g4
      rw [reiL, if_neg (by rw [h0]; decide), if_neg (by rw [h0]; decide), dcd, show alw c.k c.c (lsum (tms c.a c.x ds)) (gsum (tms c.a c.x ds)) = false by (unfold alw; simp; omega), show nev c.k c.c (lsum (tms c.a c.x ds)) (gsum (tms c.a c.x ds)) = false by (unfold nev; simp; omega)]; rw [if_neg (by decide), if_neg (by decide), set_same hp.inx.2 rfl]
    have r2 : (c.k = 4) → (¬ lsum (tms c.a c.x ds) = c.c) → (lsum (tms c.a c.x ds) > c.c) → reiL c.k c.c c.a c.x ds = some (ds.set F (without [(0, 1)] 1)) := by
      intro g0 g1 g2
      rw [reiL, if_neg (by rw [h0]; decide), if_neg (by rw [h0]; decide), dcd, show alw c.k c.c (lsum (tms c.a c.x ds)) (gsum (tms c.a c.x ds)) = false by (unfold alw; simp; omega), show nev c.k c.c (lsum (tms c.a c.x ds)) (gsum (tms c.a c.x ds)) = true by (unfold nev; simp; omega)]; rw [if_neg (by decide), if_pos rfl, h0, hF]; rfl
    have r3 : (c.k = 4) → (¬ lsum (tms c.a c.x ds) = c.c) → (¬ lsum (tms c.a c.x ds) > c.c) → (gsum (tms c.a c.x ds) < c.c) → reiL c.k c.c c.a c.x ds = some (ds.set F (without [(0, 1)] 1)) := by
      intro g0 g1 g2 g3
      rw [reiL, if_neg (by rw [h0]; decide), if_neg (by rw [h0]; decide), dcd, show alw c.k c.c (lsum (tms c.a c.x ds)) (gsum (tms c.a c.x ds)) = false by (unfold alw; simp; omega), show nev c.k c.c (lsum (tms c.a c.x ds)) (gsum (tms c.a c.x ds)) = true by (unfold nev; simp; omega)]; rw [if_neg (by decide), if_pos rfl, h0, hF]; rfl
    have r4 : (c.k = 4) → (¬ lsum (tms c.a c.x ds) = c.c) → (¬ lsum (tms c.a c.x ds) > c.c) → (¬ gsum (tms c.a c.x ds) < c.c) → reiL c.k c.c c.a c.x ds = some ds := by
      intro g0 g1 g2 g3
      rw [reiL, if_neg (by rw [h0]; decide), if_neg (by rw [h0]; decide), dcd, show alw c.k c.c (lsum (tms c.a c.x ds)) (gsum (tms c.a c.x ds)) = false by (unfold alw; simp; omega), show nev c.k c.c (lsum (tms c.a c.x ds)) (gsum (tms c.a c.x ds)) = false by (unfold nev; simp; omega)]; rw [if_neg (by decide), if_neg (by decide), set_same hp.inx.2 rfl]
    by_cases i : lsum (tms c.a c.x ds) = c.c
    · by_cases j : gsum (tms c.a c.x ds) = c.c
      · exact .inl ⟨hk4, i, j, r0 hk4 i j⟩
      · exact .inr (.inl ⟨hk4, i, j, by omega, by omega, r1 hk4 i j (by omega) (by omega)⟩)
    · by_cases j : lsum (tms c.a c.x ds) > c.c
      · exact .inr (.inr (.inl ⟨hk4, i, j, r2 hk4 i j⟩))
      · by_cases m : gsum (tms c.a c.x ds) < c.c
        · exact .inr (.inr (.inr (.inl ⟨hk4, i, j, m, r3 hk4 i j m⟩)))
        · exact .inr (.inr (.inr (.inr ⟨hk4, i, j, m, r4 hk4 i j m⟩)))
  obtain ⟨R, hR⟩ : ∃ R, R = reiL c.k c.c c.a c.x ds := ⟨_, rfl⟩
  rw [← hR] at HC ⊢
  clear hR
  have hpx : (c.x.take c.a.length).all (isV ds.length) = true := by
    rw [List.all_eq_true]; exact fun y hy => List.all_eq_true.1 hp.lin.x y (List.mem_of_mem_take hy)
  have hpl : c.a.length ≤ (c.x.take c.a.length).length := by rw [List.length_take]; have := hp.len; omega
  have hpa := hp.lin.a
  have hpw := hp.lin.w
  obtain ⟨q1, q2, q3⟩ := keep_eqs (c := c.c) (a := c.a) (x := c.x) m1 hpx
  have LI := Lib.hid (fun W X Y (k : Since w W) (hX : Sl 1 QI W X (c.x.take c.a.length)) (hY : Sl 1 QI W Y c.a) => show LinIn W Y X vd c.a (c.x.take c.a.length) ds from ⟨hY, hX, hd.since stD k, m1, hpx, hpl, hpa, hpw⟩)
  have LN := Lib.hid (fun W X Y (k : Since w W) (hX : Sl 1 QI W X (c.x.take c.a.length)) (hY : Sl 1 QI W Y (neg c.a)) => show LinIn W Y X vd (neg c.a) (c.x.take c.a.length) ds from ⟨hY, hX, hd.since stD k, m1, hpx, by rw [neg_len]; exact hpl, by rw [neg_len]; exact hpa, neg_within hpw⟩)
  have LE1 := Lib.hid (fun W X Y (k : Since w W) hX hY => by have := rleast_any _ _ _ _ _ _ _ (LI.out W X Y k hX hY); rw [tms_cut _ _ _ _ (Nat.le_refl _)] at this; exact this)
  have LE2 := Lib.hid (fun W X Y (k : Since w W) hX hY => by have := rleast_any _ _ _ _ _ _ _ (LN.out W X Y k hX hY); rw [tms_cut _ _ _ _ (by rw [neg_len]; exact Nat.le_refl _), show lsum (tms (neg c.a) c.x ds) = -gsum (tms c.a c.x ds) by have := ends_neg c.a c.x ds; omega] at this; exact this)
  have OP := Lib.hid (fun W Y (k : Since w W) (hY : Sl 1 QI W Y c.a) => ropposite_any Y c.a W hY hpa hpw)
  have hcb := hp.lin.cb
  have KI := Lib.hid (fun W X Y (k : Since w W) hX hY => by have := rkeepIs_any _ _ _ _ _ c.c _ _ (LI.out W X Y k hX hY) hcb (by omega); rw [q1] at this; exact this)
  have KE := Lib.hid (fun W X Y (k : Since w W) hX hY => by have := rkeep_any _ _ _ _ _ c.c _ _ (LI.out W X Y k hX hY) (by omega) (by omega); rw [q2] at this; exact this)
  have KN := Lib.hid (fun W X Y (k : Since w W) hX hY => by have := rkeepNot_any _ _ _ _ _ c.c _ _ (LI.out W X Y k hX hY) hcb (by omega); rw [q3] at this; exact this)
  have q4 := (keep_eqs (c := -c.c - 1) (a := neg c.a) (x := c.x) m1 (by rw [neg_len]; exact hpx)).2.1
  rw [neg_len] at q4
  have KO := Lib.hid (fun W X Y (k : Since w W) hX hY => by have := rkeep_any _ _ _ _ _ (-c.c - 1) _ _ (LN.out W X Y k hX hY) (by omega) (by omega); rw [q4] at this; exact this)
  have hbd := lsum_bd (tms_bt m1 hp.lin.x hp.lin.w)
  have htl : (tms c.a c.x ds).length ≤ 100 := by rw [tms_len (by have := hp.len; omega)]; have := hp.lin.x32; have := hp.len; omega
  have hlen := hp.len
  have hx32 := hp.lin.x32
  generalize lsum (tms c.a c.x ds) = l at *
  generalize gsum (tms c.a c.x ds) = u at *
  have WU : IntKind.i64.wrap (- -u) = u := by rw [Int.neg_neg]; exact wrap_id' (by omega) (by omega)
  have WU2 : IntKind.i64.wrap u = u := wrap_id' (by omega) (by omega)
  have WC : IntKind.i64.wrap (-c.c) = -c.c := wrap_id' (by omega) (by omega)
  have WC2 : IntKind.i64.wrap (-c.c - 1) = -c.c - 1 := wrap_id' (by omega) (by omega)
  have htake : c.x.take c.a.length = c.x.take (c.x.length - 1) := by rw [hlen, Nat.add_sub_cancel]
  obtain ⟨vx, vy, rfl, h1, h2⟩ := h
  obtain ⟨ck, cx, ca, cc⟩ := c
  simp only at *
  obtain ⟨X, xc, rfl⟩ := h1.form
  obtain ⟨Y, yc, rfl⟩ := h2.form
  obtain ⟨D, dc, rfl⟩ := hd.form
  obtain ⟨b, o, B, dB, rfl, hS, e0⟩ := cell_of (W := w) hd hdF
  have HE := Lib.hid e0
  have LO := Lib.hid (fun W k => show Calls Try.prog 75 #[.slice B 1 dB] W (fun e w' => e = .returned (.int .i64 0) ∧ Since W w' ∧ True) from rlo_any hS (by simp) W k)
  have HI := Lib.hid (fun W k => show Calls Try.prog 76 #[.slice B 1 dB] W (fun e w' => e = .returned (.int .i64 1) ∧ Since W w' ∧ True) from rhi_any hS (by simp) (by simp) W k)
  have LS := Lib.hid (fun W k n hn hne => lose_any hd m1 (by omega) hdF n hn hne W k)
  have HD := Lib.hid (fun W (k : Since w W) => hd.since stD k)
  have hcap := h1.cap
  obtain ⟨ny, hny⟩ : ∃ n, n = ca.length := ⟨_, rfl⟩
  rw [← hny] at hlen
  rw [hlen] at h1 hcap ⊢
  rw [← hny] at h2 LE1 LE2 KI KE KN KO OP ⊢
  obtain ⟨g, o2, rfl, ex⟩ := elI (h1.since stI (Since.refl w)) (i := ny) (by omega)
  have hfx : cx[ny]'(by omega) = (F : Int) := by
    have e9 : cx.length - 1 = ny := by omega
    rw [← hF]; unfold fl; rw [e9]; simp [List.getD, show ny < cx.length by omega]
  rw [hfx] at ex
  have XT := Lib.hid (fun W (k : Since w W) => (sl_take h1 (m := ny) (by omega)).since stI k)
  have YT := Lib.hid (fun W (k : Since w W) => h2.since stI k)
  generalize hnd : List.length ds = nd at *
  have hFn : F < nd := by omega
  have hwm : IntKind.i64.wrap (ny : Int) = (ny : Int) := by simp [IntKind.wrap, IntKind.bits, IntKind.signed]; omega
  have hmm : (ny : Int) < (ny : Int) + 1 := by omega
  have hcap2 : ny ≤ xc := by omega
  have hcap3 : ((ny : Nat) : Int) ≤ (xc : Int) := by omega
  have HND := Lib.hid hnd
  obtain ⟨wz, hwz⟩ : ∃ wz, wz = w.alloc (.cells #[.int .i64 ck, .slice (some ⟨g, o2, none⟩) (ny + 1) xc, .slice Y ny yc, .int .i64 cc] 25) := ⟨_, rfl⟩
  have ka := Lib.hid (show Since w wz by rw [hwz]; exact since_alloc _ _)
  have BC := Lib.hid (show Bx wz w.heap.size #[.int .i64 ck, .slice (some ⟨g, o2, none⟩) (ny + 1) xc, .slice Y ny yc, .int .i64 cc] 25 by rw [hwz]; exact Bx.fresh w #[.int .i64 ck, .slice (some ⟨g, o2, none⟩) (ny + 1) xc, .slice Y ny yc, .int .i64 cc] 25)
  have CX := Lib.hid (fun W (k : Since wz W) => ((ka.out.trans k).cell _ (World.block_lt_of_cell? _ _ ex)).trans ex)
  obtain ⟨b0, b1, b2, b3⟩ := bx4 (show Bx (w.alloc (.cells #[.int .i64 ck, .slice (some ⟨g, o2, none⟩) (ny + 1) xc, .slice Y ny yc, .int .i64 cc] 25)) w.heap.size #[.int .i64 ck, .slice (some ⟨g, o2, none⟩) (ny + 1) xc, .slice Y ny yc, .int .i64 cc] 25 from hwz ▸ BC.out)
  clear hk4 hlg h1 h2 hd hm hk h0 hp hpx hpl hpa hpw q1 q2 q3 q4 hcb hbd htl hx32 htake hS e0 hcap ex hfx hF hFl hdF hny hnd hlen m1 m2 m3 LI LN
  rcases HC with ⟨hkk, rfl, rfl, HRES⟩ | ⟨hkk, i0, i1, i2, i3, HRES⟩ | ⟨hkk, i0, i1, HRES⟩ | ⟨hkk, i0, i1, i2, HRES⟩ | ⟨hkk, i0, i1, i2, HRES⟩
  all_goals
    subst hkk
    go_enter Try.func74, Try.ntmps74
    go_wp2
    rw [← hwz]
    clear hwz b0 b1 b2 b3
    have hr0 : Since wz wz.drew := Since.drew (Since.refl wz)
    refine wp_region_noPanic ?_
    refine Reg.wp_region_G (S := fun _ => True) (fun j => [].contains j) (by kernel_rfl) trivial ?_
    refine' Reg.tk (i := 0) (oi := { dst := some 17, op := Op.fieldAddr 25 (Operand.tmp 2) 1, type := 0, pos := "ref.go:26", after := #[], guard := none }) (v := _) [1, 3, 4, 9, 10] [] (Or.inl ⟨by rfl, Or.inl ?_⟩) ?_
    rotate_left
    · (intro w' kk ss; obtain ⟨x0, x1, x2, x3⟩ := bx4 (BC.out.since (hr0.trans kk)); have u0 := CX.out _ (hr0.trans kk); go_simp; first | done | with_reducible rfl)
    try simp only [Act.put, List.setIfInBounds_toArray, List.set_cons_zero, List.set_cons_succ]
    refine' Reg.tk (i := 1) (oi := { dst := some 18, op := Op.load 22 (Operand.tmp 17), type := 22, pos := "ref.go:26", after := #[{ on := 0, ground := Ground.data }], guard := none }) (v := _) [3, 4, 9, 10] [] (Or.inl ⟨by rfl, Or.inl ?_⟩) ?_
    rotate_left
    · (intro w' kk ss; obtain ⟨x0, x1, x2, x3⟩ := bx4 (BC.out.since (hr0.trans kk)); have u0 := CX.out _ (hr0.trans kk); go_simp; first | done | with_reducible rfl)
    try simp only [Act.put, List.setIfInBounds_toArray, List.set_cons_zero, List.set_cons_succ]
    refine' Reg.tk (i := 2) (oi := { dst := some 19, op := Op.move (Operand.tmp 6), type := 3, pos := "ref.go:26", after := #[], guard := none }) (v := _) [3, 4, 9, 10] [] (Or.inl ⟨by rfl, Or.inl ?_⟩) ?_
    rotate_left
    · (intro w' kk ss; obtain ⟨x0, x1, x2, x3⟩ := bx4 (BC.out.since (hr0.trans kk)); have u0 := CX.out _ (hr0.trans kk); go_simp; first | done | with_reducible rfl)
    try simp only [Act.put, List.setIfInBounds_toArray, List.set_cons_zero, List.set_cons_succ]
    refine' Reg.tk (i := 3) (oi := { dst := some 20, op := Op.indexAddr 22 (Operand.tmp 18) (Operand.tmp 19), type := 0, pos := "ref.go:26", after := #[{ on := 1, ground := Ground.data }, { on := 2, ground := Ground.data }], guard := none }) (v := _) [4, 9, 10] [] (Or.inl ⟨by rfl, Or.inl ?_⟩) ?_
    rotate_left
    · (intro w' kk ss; obtain ⟨x0, x1, x2, x3⟩ := bx4 (BC.out.since (hr0.trans kk)); have u0 := CX.out _ (hr0.trans kk); go_simp; first | done | with_reducible rfl)
    try simp only [Act.put, List.setIfInBounds_toArray, List.set_cons_zero, List.set_cons_succ]
    refine' Reg.tk (i := 4) (oi := { dst := some 21, op := Op.load 3 (Operand.tmp 20), type := 3, pos := "ref.go:26", after := #[{ on := 3, ground := Ground.data }], guard := none }) (v := _) [9, 10] [] (Or.inl ⟨by rfl, Or.inl ?_⟩) ?_
    rotate_left
    · (intro w' kk ss; obtain ⟨x0, x1, x2, x3⟩ := bx4 (BC.out.since (hr0.trans kk)); have u0 := CX.out _ (hr0.trans kk); go_simp; first | done | with_reducible rfl)
    try simp only [Act.put, List.setIfInBounds_toArray, List.set_cons_zero, List.set_cons_succ]
    refine' Reg.tk (i := 5) (oi := { dst := some 22, op := Op.fieldAddr 25 (Operand.tmp 2) 1, type := 0, pos := "ref.go:26", after := #[], guard := none }) (v := _) [6, 8, 10] [] (Or.inl ⟨by rfl, Or.inl ?_⟩) ?_
    rotate_left
    · (intro w' kk ss; obtain ⟨x0, x1, x2, x3⟩ := bx4 (BC.out.since (hr0.trans kk)); have u0 := CX.out _ (hr0.trans kk); go_simp; first | done | with_reducible rfl)
    try simp only [Act.put, List.setIfInBounds_toArray, List.set_cons_zero, List.set_cons_succ]
    refine' Reg.tk (i := 6) (oi := { dst := some 23, op := Op.load 22 (Operand.tmp 22), type := 22, pos := "ref.go:26", after := #[{ on := 5, ground := Ground.data }], guard := none }) (v := _) [8, 10] [] (Or.inl ⟨by rfl, Or.inl ?_⟩) ?_
    rotate_left
    · (intro w' kk ss; obtain ⟨x0, x1, x2, x3⟩ := bx4 (BC.out.since (hr0.trans kk)); have u0 := CX.out _ (hr0.trans kk); go_simp; first | done | with_reducible rfl)
    try simp only [Act.put, List.setIfInBounds_toArray, List.set_cons_zero, List.set_cons_succ]
    refine' Reg.tk (i := 7) (oi := { dst := some 24, op := Op.move (Operand.tmp 6), type := 3, pos := "ref.go:26", after := #[], guard := none }) (v := _) [8, 10] [] (Or.inl ⟨by rfl, Or.inl ?_⟩) ?_
    rotate_left
    · (intro w' kk ss; obtain ⟨x0, x1, x2, x3⟩ := bx4 (BC.out.since (hr0.trans kk)); have u0 := CX.out _ (hr0.trans kk); go_simp; first | done | with_reducible rfl)
    try simp only [Act.put, List.setIfInBounds_toArray, List.set_cons_zero, List.set_cons_succ]
    refine' Reg.tk (i := 8) (oi := { dst := some 25, op := Op.slice 22 (Operand.tmp 23) none (some (Operand.tmp 24)) none, type := 22, pos := "ref.go:26", after := #[{ on := 6, ground := Ground.data }, { on := 7, ground := Ground.data }], guard := none }) (v := _) [10] [] (Or.inl ⟨by rfl, Or.inl ?_⟩) ?_
    rotate_left
    · (intro w' kk ss; obtain ⟨x0, x1, x2, x3⟩ := bx4 (BC.out.since (hr0.trans kk)); have u0 := CX.out _ (hr0.trans kk); go_simp; first | done | with_reducible rfl)
    try simp only [Act.put, List.setIfInBounds_toArray, List.set_cons_zero, List.set_cons_succ]
    refine' Reg.tk (i := 9) (oi := { dst := some 7, op := Op.assign (Operand.tmp 21), type := 3, pos := "ref.go:26", after := #[{ on := 4, ground := Ground.data }, { on := 0, ground := Ground.phase }, { on := 1, ground := Ground.phase }, { on := 2, ground := Ground.phase }, { on := 3, ground := Ground.phase }, { on := 4, ground := Ground.phase }, { on := 5, ground := Ground.textOnly Departure.lateStores }, { on := 6, ground := Ground.textOnly Departure.lateStores }, { on := 7, ground := Ground.textOnly Departure.lateStores }, { on := 8, ground := Ground.textOnly Departure.lateStoresUnsure }], guard := none }) (v := _) [10] [] (Or.inl ⟨by rfl, Or.inl ?_⟩) ?_
    rotate_left
    · (intro w' kk ss; obtain ⟨x0, x1, x2, x3⟩ := bx4 (BC.out.since (hr0.trans kk)); have u0 := CX.out _ (hr0.trans kk); go_simp; first | done | with_reducible rfl)
    try simp only [Act.put, List.setIfInBounds_toArray, List.set_cons_zero, List.set_cons_succ]
    refine' Reg.tk (i := 10) (oi := { dst := some 8, op := Op.assign (Operand.tmp 25), type := 22, pos := "ref.go:26", after := #[{ on := 8, ground := Ground.data }, { on := 9, ground := Ground.chain }, { on := 0, ground := Ground.phase }, { on := 1, ground := Ground.phase }, { on := 2, ground := Ground.phase }, { on := 3, ground := Ground.phase }, { on := 4, ground := Ground.phase }, { on := 5, ground := Ground.phase }, { on := 6, ground := Ground.phase }, { on := 7, ground := Ground.phase }, { on := 8, ground := Ground.phase }, { on := 9, ground := Ground.phase }], guard := none }) (v := _) [] [] (Or.inl ⟨by rfl, Or.inl ?_⟩) ?_
    rotate_left
    · (intro w' kk ss; obtain ⟨x0, x1, x2, x3⟩ := bx4 (BC.out.since (hr0.trans kk)); have u0 := CX.out _ (hr0.trans kk); go_simp; first | done | with_reducible rfl)
    try simp only [Act.put, List.setIfInBounds_toArray, List.set_cons_zero, List.set_cons_succ]
    refine Reg.wpG_done (by kernel_rfl) (fun wq ke se => ?_) _
    refine NoPanic.normal ?_
    have hr0 := hr0.trans ke
    clear ke
    have K0 := Lib.hid (ka.out.trans hr0)
    have L0 := Lib.hid hr0
    obtain ⟨b0, b1, b2, b3⟩ := bx4 (BC.out.since hr0)
    clear hr0
    go_wp2_with (first
      | (go_at_call 110; (with_reducible refine (LE1.out _ _ _ K0.out (XT.out _ K0.out) (YT.out _ K0.out)).mono ?_); rintro e w1 ⟨rfl, k1, -⟩; have K1 := Lib.hid (K0.out.trans k1); have L1 := Lib.hid (L0.out.trans k1); obtain ⟨b0, b1, b2, b3⟩ := bx4 (BC.out.since L1.out); clear k1)
      | (go_at_call 111; (with_reducible refine (OP.out _ _ K1.out (YT.out _ K1.out)).mono ?_); rintro e w2 ⟨OA, oc, rfl, ho, k2⟩; have HO := Lib.hid ho; have K2 := Lib.hid (K1.out.trans k2); have L2 := Lib.hid (L1.out.trans k2); clear k2 ho)
      | (go_at_call 110; (with_reducible refine (LE2.out _ _ _ K2.out (XT.out _ K2.out) HO.out).mono ?_); rintro e w3 ⟨rfl, k3, -⟩; have K3 := Lib.hid (K2.out.trans k3); have L3 := Lib.hid (L2.out.trans k3); have cf := (K3.out.cell _ (World.block_lt_of_cell? _ _ HE.out)).trans HE.out; clear k3)
      | (go_at_call 75; (with_reducible refine (LO.out _ K3.out).mono ?_); rintro e w4 ⟨rfl, k4, -⟩; have K4 := Lib.hid (K3.out.trans k4); have L4 := Lib.hid (L3.out.trans k4); have cf := (K4.out.cell _ (World.block_lt_of_cell? _ _ HE.out)).trans HE.out; clear k4)
      | (go_at_call 76; (with_reducible refine (HI.out _ K4.out).mono ?_); rintro e w5 ⟨rfl, k5, -⟩; have K5 := Lib.hid (K4.out.trans k5); have L5 := Lib.hid (L4.out.trans k5); obtain ⟨b0, b1, b2, b3⟩ := bx4 (BC.out.since L5.out); clear k5)
      | (go_at_call 115; (with_reducible refine (LS.out _ K5.out 0 (.inl rfl) (by decide)).mono ?_); rintro e w6 ⟨A6, n6, c6, rfl, h6, k6⟩; have H6 := Lib.hid h6; have K6 := Lib.hid (K5.out.trans k6); clear h6 k6)
      | (go_at_call 115; (with_reducible refine (LS.out _ K5.out 1 (.inr rfl) (by decide)).mono ?_); rintro e w6 ⟨A6, n6, c6, rfl, h6, k6⟩; have H6 := Lib.hid h6; have K6 := Lib.hid (K5.out.trans k6); clear h6 k6))
    go_ret2
    rw [HRES]
    first | exact ⟨A6, n6, c6, rfl, H6.out, K6.out⟩ | exact .yes rfl rfl HND.out (HD.out _ K5.out) K5.out
end Go.Proofs.Ytoegbgkgenjplaa.Rf
