/- Layer 15 (logic): the landed placesOf, fit. -/
import Derived.Test.YtilgmkhcpmegjaaCe
namespace Go.Proofs.Ytilgmkhcpmegjaa.Lgc
open Go.RowKit
set_option linter.unusedVariables false
set_option linter.unusedSimpArgs false
open Go.Proofs.Ytilgmkhcpmegjaa.Dig Go.Proofs.Ytilgmkhcpmegjaa.Lx Go.Proofs.Ytilgmkhcpmegjaa.Tk Go.Proofs.Ytilgmkhcpmegjaa.Ti Go.Proofs.Ytilgmkhcpmegjaa.Zs Go.Proofs.Ytilgmkhcpmegjaa.Tr Go.Proofs.Ytilgmkhcpmegjaa.Sn Go.Proofs.Ytilgmkhcpmegjaa.Ln Go.Proofs.Ytilgmkhcpmegjaa.At
/-- another block turns -/
theorem dat_other {g n b0 : Nat} {w0 w w' : World} {D : Ln.Ds} (h : DAt g n w0 w D) (k : Og b0 w w') (hb : b0 ≠ g) (hlt : b0 < w0.heap.size) : DAt g n w0 w' D := by
  obtain ⟨hl, cs, h1, h2, h3, h9⟩ := h
  refine ⟨hl, cs, k.bx h1 (Ne.symm hb), h2, fun i d hd => ?_, h9⟩
  obtain ⟨u, h4, h5, h6⟩ := h3 i d hd
  have hne : ∀ b, u.ownBlock = some b → b ≠ b0 := fun b hb' => by have := (h6 b hb').1; omega
  have kv : Og b0 (veil (but g) w) (veil (but g) w') := ⟨k.os, k.tape, k.output, by rw [veil_size, veil_size]; exact k.size, fun i hi hg => by
    rw [veil_size] at hi
    rw [veil_at, veil_at, k.block i hi hg]⟩
  refine ⟨u, h4, kv.sl (fun _ _ _ _ q => q) h5 hne, fun b hb' => ⟨(h6 b hb').1, Nat.lt_of_lt_of_le (h6 b hb').2.1 k.size, fun j => ?_⟩⟩
  exact (World.frozen?_of_block (w := w) (a := ⟨b, j, none⟩) (k.block b (h6 b hb').2.1 (by simpa [but] using hne b hb'))).trans ((h6 b hb').2.2 j)
set_option maxRecDepth 20000 in
set_option maxHeartbeats 2000000 in
theorem lfit_any (v vd : Value) (c : Cn) (ds : List (List Rn)) (w : World) (h : ConAt w v c) (hd : Sl 1 QD w vd ds) (hs : SzM ⟨ds, [c], 0, 0⟩) :
    Calls Try.prog 65 #[v, vd] w (fun e w' => e = .returned (.bool (modOk ⟨ds, [c], 0, 0⟩)) ∧ Since w w' ∧ True) := by
  have MR := Lib.hid (fun W v (k : Since w W) (h : ModAt W v ⟨ds, [c], 0, 0⟩) => mright_any v ⟨ds, [c], 0, 0⟩ W h hs)
  obtain ⟨R, hR⟩ : ∃ R, R = modOk ⟨ds, [c], 0, 0⟩ := ⟨_, rfl⟩
  rw [← hR] at MR ⊢
  obtain ⟨vx, vy, rfl, h1, h2⟩ := h
  obtain ⟨ck, cx, ca, cc⟩ := c
  simp only at *
  obtain ⟨X, xc, rfl⟩ := h1.form
  obtain ⟨Y, yc, rfl⟩ := h2.form
  obtain ⟨D, dc, rfl⟩ := hd.form
  generalize hnx : cx.length = nx at *
  generalize hny : ca.length = ny at *
  generalize hnd : ds.length = nd at *
  have ka := since_alloc w (.cells #[.int .i64 ck, .slice X nx xc, .slice Y ny yc, .int .i64 cc] 25)
  have kb := since_alloc (w.alloc (.cells #[.int .i64 ck, .slice X nx xc, .slice Y ny yc, .int .i64 cc] 25)) (.cells #[.int .i64 ck, .slice X nx xc, .slice Y ny yc, .int .i64 cc] 25)
  have CL := con_lit (w.alloc (.cells #[.int .i64 ck, .slice X nx xc, .slice Y ny yc, .int .i64 cc] 25)) ⟨ck, cx, ca, cc⟩ (.slice X nx xc) (.slice Y ny yc) (h1.since stI ka) (h2.since stI ka)
  rw [show (w.alloc (.cells #[.int .i64 ck, .slice X nx xc, .slice Y ny yc, .int .i64 cc] 25)).heap.size = w.heap.size + 1 by simp] at CL
  simp only at CL
  have M := Lib.hid (MR.out ((w.alloc (.cells #[.int .i64 ck, .slice X nx xc, .slice Y ny yc, .int .i64 cc] 25)).alloc (.cells #[.int .i64 ck, .slice X nx xc, .slice Y ny yc, .int .i64 cc] 25)) (.agg #[.slice D nd dc, .slice (some ⟨w.heap.size + 1, 0, none⟩) 1 1, .int .i64 0, .int .i64 0]) (ka.trans kb) ⟨_, _, rfl, hd.since stD (ka.trans kb), CL⟩)
  have K := Lib.hid (ka.trans kb)
  obtain ⟨b0, b1, b2, b3⟩ := bx4 (Bx.fresh w #[.int .i64 ck, .slice X nx xc, .slice Y ny yc, .int .i64 cc] 25)
  clear MR hR h1 h2 hd hs CL ka kb hnx hny hnd
  go_enter Try.func65, Try.ntmps65
  go_wp2_with (go_at_call 122; (with_reducible refine M.out.mono ?_); rintro e w2 ⟨rfl, k2⟩; have K2 := Lib.hid (K.out.trans k2); clear k2)
  go_ret
  exact ⟨rfl, K2.out, trivial⟩
theorem dat_made {g n : Nat} {w0 w : World} (hB : Bx w g (madeCells #[.slice none 0 0] n) 43) : DAt g n w0 w (List.replicate n []) := by
  have hb := Bx.fresh w (madeCells #[.slice none 0 0] n) 43
  have hc : ∀ i, i < n → (w.alloc (.cells (madeCells #[.slice none 0 0] n) 43)).cell? ⟨w.heap.size, i, none⟩ = some (.slice none 0 0) := fun i hi => by
    have := (World.rowIs_made w (.slice none 0 0) n 43).cell hi
    simpa using this
  have hs : (madeCells #[Value.slice none 0 0] n).size = n := by simp [madeCells]
  have hz : ∀ (i : Nat) (u : Value), (madeCells #[Value.slice none 0 0] n)[i]? = some u → u = Value.slice none 0 0 := fun (i : Nat) (u : Value) hu => by
    have hi : i < n := by rw [← hs]; exact (Array.getElem?_eq_some_iff.1 hu).1
    have h1 := hb.cell i
    rw [hc i hi] at h1
    rw [hu] at h1
    exact (Option.some.inj h1).symm
  refine ⟨by simp, _, hB, hs, fun i d hd => ?_, fun i j u u2 hu hu2 _ b hb1 => by rw [hz i u hu] at hb1; simp [Value.ownBlock] at hb1⟩
  have hi : i < n := by
    have := (List.getElem?_eq_some_iff.1 hd).1
    simpa using this
  have hd2 : d = [] := by
    rw [List.getElem?_replicate, if_pos hi] at hd
    exact (Option.some.inj hd).symm
  subst hd2
  have h1 := hb.cell i
  rw [hc i hi] at h1
  refine ⟨.slice none 0 0, ?_, Sl.nil _ _ _, fun b hb => by simp [Value.ownBlock] at hb⟩
  have hi2 : i < (madeCells #[Value.slice none 0 0] n).size := by omega
  simpa [hi2] using h1.symm
theorem clone_new {B : Option Addr} {m cB : Nat} {y : List Rn} {wr W : World} (hS : Sl 2 QR W (.slice B m cB) y) (hl : y.length ≤ 1100000) (k : Since wr W) :
    Calls Try.prog 102 #[.slice B m cB] W (fun e w2 => ∃ A2 m2 c2, e = .returned (.slice A2 m2 c2) ∧ y.length = m2 ∧ NewR wr w2 (.slice A2 m2 c2) y ∧ Since W w2) :=
  (rclone_any _ y W hS hl).mono fun e w2 hh => by
    obtain ⟨A2, m2, c2, rfl, hm2, hS2, k2, hf2⟩ := hh
    exact ⟨A2, m2, c2, rfl, hm2, ⟨hS2, fun b hb => ⟨Nat.le_trans k.size (hf2 b hb).1, (hf2 b hb).2⟩⟩, k2⟩
set_option maxRecDepth 20000 in
set_option maxHeartbeats 16000000 in
theorem placesOf_any (v vd : Value) (c : Cn) (ds : Ln.Ds) (w : World) (h : ConAt w v c) (hd : Sl 1 QD w vd ds) (hl : ds.length ≤ 100000) (hdl : ∀ d ∈ ds, d.length ≤ 1100000) :
    Calls Try.prog 66 #[v, vd] w (fun e w' => ∃ X xc g n, (∃ u a, v = .agg #[u, .slice X c.x.length xc, a, .int .i64 c.c]) ∧ e = .returned (.agg #[.slice X c.x.length xc, .slice (some ⟨g, 0, none⟩) n n]) ∧ n = ds.length ∧ w.heap.size ≤ g ∧ g < w'.heap.size ∧ DAt g n w w' ds ∧ Since w w') := by
  have HDL := Lib.hid hdl
  have hmk := make_doms ds.length (by omega)
  obtain ⟨vx, vy, rfl, h1, h2⟩ := h
  obtain ⟨ck, cx, ca, cc⟩ := c
  simp only at *
  obtain ⟨X, xc, rfl⟩ := h1.form
  obtain ⟨Y, yc, rfl⟩ := h2.form
  obtain ⟨D, dc, rfl⟩ := hd.form
  generalize hnx : cx.length = nx at *
  generalize hny : ca.length = ny at *
  generalize hnd : List.length ds = nd at *
  have ka := Lib.hid (since_alloc w (.cells #[.int .i64 ck, .slice X nx xc, .slice Y ny yc, .int .i64 cc] 25))
  have BC := Lib.hid (Bx.fresh w #[.int .i64 ck, .slice X nx xc, .slice Y ny yc, .int .i64 cc] 25)
  obtain ⟨b0, b1, b2, b3⟩ := bx4 BC.out
  have HD := Lib.hid hd
  have HN := Lib.hid hnd
  clear h1 h2 hd hdl hny hnd
  have kz := Lib.hid (since_alloc (w.alloc (.cells #[.int .i64 ck, .slice X nx xc, .slice Y ny yc, .int .i64 cc] 25)) (.cells #[.slice none 0 0, .slice none 0 0] 84))
  have HR := Lib.hid (Bx.fresh (w.alloc (.cells #[.int .i64 ck, .slice X nx xc, .slice Y ny yc, .int .i64 cc] 25)) #[.slice none 0 0, .slice none 0 0] 84)
  have hsz : (w.alloc (.cells #[.int .i64 ck, .slice X nx xc, .slice Y ny yc, .int .i64 cc] 25)).heap.size = w.heap.size + 1 := by simp
  rw [hsz] at HR
  have hsz2 : ((w.alloc (.cells #[.int .i64 ck, .slice X nx xc, .slice Y ny yc, .int .i64 cc] 25)).alloc (.cells #[.slice none 0 0, .slice none 0 0] 84)).heap.size = w.heap.size + 1 + 1 := by simp
  go_enter Try.func66, Try.ntmps66
  go_wp2
  have hr0 : Since ((w.alloc (.cells #[.int .i64 ck, .slice X nx xc, .slice Y ny yc, .int .i64 cc] 25)).alloc (.cells #[.slice none 0 0, .slice none 0 0] 84)) ((w.alloc (.cells #[.int .i64 ck, .slice X nx xc, .slice Y ny yc, .int .i64 cc] 25)).alloc (.cells #[.slice none 0 0, .slice none 0 0] 84)).drew := Since.drew (Since.refl ((w.alloc (.cells #[.int .i64 ck, .slice X nx xc, .slice Y ny yc, .int .i64 cc] 25)).alloc (.cells #[.slice none 0 0, .slice none 0 0] 84)))
  refine wp_region_noPanic ?_
  refine Reg.wp_region_G (S := fun _ => True) (fun j => [7].contains j) (by kernel_rfl) trivial ?_
  refine' Reg.tk3 (i := 0) (v := _) (some 7) [1, 5, 7] [7] rfl (Or.inl ⟨by rfl, Or.inl ?hy117⟩) ?rest117
  case hy117 => (intro w' kk ss; obtain ⟨x0, x1, x2, x3⟩ := bx4 (BC.out.since (kz.out.trans (hr0.trans kk))); go_simp; first | done | with_reducible rfl)
  try simp only [Act.put, List.setIfInBounds_toArray, List.set_cons_zero, List.set_cons_succ]
  refine' Reg.tk3 (i := 1) (v := _) (some 8) [5, 7] [7] rfl (Or.inl ⟨by rfl, Or.inl ?hy118⟩) ?rest118
  case hy118 => (intro w' kk ss; obtain ⟨x0, x1, x2, x3⟩ := bx4 (BC.out.since (kz.out.trans (hr0.trans kk))); go_simp; first | done | with_reducible rfl)
  try simp only [Act.put, List.setIfInBounds_toArray, List.set_cons_zero, List.set_cons_succ]
  refine' Reg.tk3 (i := 2) (v := _) (some 9) [3, 4, 5, 7] [7] rfl (Or.inl ⟨by rfl, Or.inl ?hy119⟩) ?rest119
  case hy119 => (intro w' kk ss; obtain ⟨x0, x1, x2, x3⟩ := bx4 (BC.out.since (kz.out.trans (hr0.trans kk))); go_simp; first | done | with_reducible rfl)
  try simp only [Act.put, List.setIfInBounds_toArray, List.set_cons_zero, List.set_cons_succ]
  refine' Reg.tk3 (i := 3) (v := _) (some 10) [4, 5, 7] [7] rfl (Or.inl ⟨by rfl, Or.inl ?hy120⟩) ?rest120
  case hy120 => (intro w' kk ss; obtain ⟨x0, x1, x2, x3⟩ := bx4 (BC.out.since (kz.out.trans (hr0.trans kk))); go_simp; first | done | with_reducible rfl)
  try simp only [Act.put, List.setIfInBounds_toArray, List.set_cons_zero, List.set_cons_succ]
  refine Reg.wpG_ready (rs := [4, 6]) (by kernel_rfl) (by simp) (fun wa ka1 _ => ?_)
  have hr0 := hr0.trans ka1
  refine Reg.AllG.first (o := { dst := some 11, op := Op.makeSlice 26 (Operand.tmp 10) (Operand.tmp 10), type := 26, pos := "places.go:32", after := #[{ on := 3, ground := Ground.data }, { on := 3, ground := Ground.data }], guard := none }) rfl (by rfl) (fun K hK => ?_) (Reg.AllG.first (o := { dst := some 5, op := Op.alloc 84, type := 0, pos := "places.go:32", after := #[], guard := none }) rfl (by rfl) (fun K hK => ?_) Reg.AllG.nil)
  case' refine_1 =>
    have hra := hr0
    have hmk1 := hmk wa
    go_simp
    have hx := since_alloc wa (.cells (madeCells #[.slice none 0 0] nd) 43)
    have hgw := hr0.size
    refine hK.out _ _ trivial hx ?_
    clear hK K
    have MD := Lib.hid (Bx.fresh wa (madeCells #[.slice none 0 0] nd) 43)
    have MM := Lib.hid (show wa.heap.size < (wa.alloc (.cells (madeCells #[.slice none 0 0] nd) 43)).heap.size by simp)
    generalize hgg : wa.heap.size = gg at *
    have hr0 := hr0.trans hx
    clear hmk1
    try simp only [Act.put, List.setIfInBounds_toArray, List.set_cons_zero, List.set_cons_succ]
    refine' Reg.tk3 (i := 5) (v := _) (some 12) [7] [7] rfl (Or.inl ⟨by rfl, Or.inl ?hy121⟩) ?rest121
    case hy121 => (intro w' kk ss; obtain ⟨x0, x1, x2, x3⟩ := bx4 (BC.out.since (kz.out.trans (hr0.trans kk))); go_simp; first | done | with_reducible rfl)
    try simp only [Act.put, List.setIfInBounds_toArray, List.set_cons_zero, List.set_cons_succ]
    refine Reg.wpG_ready (rs := [6]) (by kernel_rfl) (by simp) (fun wb kb1 _ => ?_)
    have hr0 := hr0.trans kb1
    have MD2 := Lib.hid (MD.out.since kb1)
    refine Reg.AllG.first (o := { dst := some 5, op := Op.alloc 84, type := 0, pos := "places.go:32", after := #[], guard := none }) rfl (by rfl) (fun K hK => ?_) Reg.AllG.nil
    go_simp
    have hx := since_alloc wb (.cells #[.slice none 0 0, .slice none 0 0] 84)
    have hpw := hr0.size
    refine hK.out _ _ trivial hx ?_
    clear hK K
    have HZ := Lib.hid (Bx.fresh wb #[.slice none 0 0, .slice none 0 0] 84)
    have HZM := Lib.hid (show wb.heap.size < (wb.alloc (.cells #[.slice none 0 0, .slice none 0 0] 84)).heap.size by simp)
    generalize hbb : wb.heap.size = bP at *
    have hr0 := hr0.trans hx
    try simp only [Act.put, List.setIfInBounds_toArray, List.set_cons_zero, List.set_cons_succ]
    have hne : gg ≠ bP := by have := MM.out; have := kb1.size; omega
    refine Reg.wpG_ready (rs := [7]) (by kernel_rfl) (by simp) (fun wq kq1 _ => ?_)
    have hr0 := hr0.trans kq1
    have HZ2 := Lib.hid (HZ.out.since kq1)
    have MD3 := Lib.hid ((MD2.out.since hx).since kq1)
    refine Reg.AllG.last (o := { dst := none, op := Op.store 84 (Operand.tmp 5) (Operand.tmp 12), type := 0, pos := "places.go:32", after := #[{ on := 6, ground := Ground.data }, { on := 5, ground := Ground.data }, { on := 0, ground := Ground.phase }, { on := 1, ground := Ground.phase }, { on := 2, ground := Ground.phase }, { on := 3, ground := Ground.phase }, { on := 4, ground := Ground.phase }, { on := 5, ground := Ground.phase }, { on := 6, ground := Ground.phase }], guard := none }) rfl (by rfl) (fun K hK => ?_) Reg.AllG.nil
    obtain ⟨f0, f1⟩ := HZ2.out.two
    obtain ⟨g0, g1⟩ := HZ2.out.two'
    have HB := Lib.hid (HZ2.out.put2 (.slice X nx xc) (.slice (some ⟨gg, 0, none⟩) nd nd))
    unfold put2 at HB
    go_simp
    refine hK.out _ _ trivial (fun hHeld => ?_)
    clear hK K
    try simp only [Act.put, List.setIfInBounds_toArray, List.set_cons_zero, List.set_cons_succ]
    refine wpAnyH_done (by kernel_rfl) ?_ _
    refine NoPanic.normal ?_
  case' refine_2 =>
    have hra := hr0
    go_simp
    have hx := since_alloc wa (.cells #[.slice none 0 0, .slice none 0 0] 84)
    have hpw := hr0.size
    refine hK.out _ _ trivial hx ?_
    clear hK K
    have HZ := Lib.hid (Bx.fresh wa #[.slice none 0 0, .slice none 0 0] 84)
    have HZM := Lib.hid (show wa.heap.size < (wa.alloc (.cells #[.slice none 0 0, .slice none 0 0] 84)).heap.size by simp)
    generalize hbb : wa.heap.size = bP at *
    have hr0 := hr0.trans hx
    try simp only [Act.put, List.setIfInBounds_toArray, List.set_cons_zero, List.set_cons_succ]
    refine Reg.wpG_ready (rs := [4]) (by kernel_rfl) (by simp) (fun wb kb1 _ => ?_)
    have hr0 := hr0.trans kb1
    have HZ1 := Lib.hid (HZ.out.since kb1)
    refine Reg.AllG.first (o := { dst := some 11, op := Op.makeSlice 26 (Operand.tmp 10) (Operand.tmp 10), type := 26, pos := "places.go:32", after := #[{ on := 3, ground := Ground.data }, { on := 3, ground := Ground.data }], guard := none }) rfl (by rfl) (fun K hK => ?_) Reg.AllG.nil
    have hmk1 := hmk wb
    go_simp
    have hx := since_alloc wb (.cells (madeCells #[.slice none 0 0] nd) 43)
    have hgw := hr0.size
    refine hK.out _ _ trivial hx ?_
    clear hK K
    have MD := Lib.hid (Bx.fresh wb (madeCells #[.slice none 0 0] nd) 43)
    have MM := Lib.hid (show wb.heap.size < (wb.alloc (.cells (madeCells #[.slice none 0 0] nd) 43)).heap.size by simp)
    generalize hgg : wb.heap.size = gg at *
    have hr0 := hr0.trans hx
    clear hmk1
    try simp only [Act.put, List.setIfInBounds_toArray, List.set_cons_zero, List.set_cons_succ]
    have hne : gg ≠ bP := by have := HZM.out; have := kb1.size; omega
    refine' Reg.tk3 (i := 5) (v := _) (some 12) [7] [7] rfl (Or.inl ⟨by rfl, Or.inl ?hy122⟩) ?rest122
    case hy122 => (intro w' kk ss; obtain ⟨x0, x1, x2, x3⟩ := bx4 (BC.out.since (kz.out.trans (hr0.trans kk))); go_simp; first | done | with_reducible rfl)
    try simp only [Act.put, List.setIfInBounds_toArray, List.set_cons_zero, List.set_cons_succ]
    refine Reg.wpG_ready (rs := [7]) (by kernel_rfl) (by simp) (fun wq kq1 _ => ?_)
    have hr0 := hr0.trans kq1
    have HZ2 := Lib.hid ((HZ1.out.since hx).since kq1)
    have MD3 := Lib.hid (MD.out.since kq1)
    refine Reg.AllG.last (o := { dst := none, op := Op.store 84 (Operand.tmp 5) (Operand.tmp 12), type := 0, pos := "places.go:32", after := #[{ on := 6, ground := Ground.data }, { on := 5, ground := Ground.data }, { on := 0, ground := Ground.phase }, { on := 1, ground := Ground.phase }, { on := 2, ground := Ground.phase }, { on := 3, ground := Ground.phase }, { on := 4, ground := Ground.phase }, { on := 5, ground := Ground.phase }, { on := 6, ground := Ground.phase }], guard := none }) rfl (by rfl) (fun K hK => ?_) Reg.AllG.nil
    obtain ⟨f0, f1⟩ := HZ2.out.two
    obtain ⟨g0, g1⟩ := HZ2.out.two'
    have HB := Lib.hid (HZ2.out.put2 (.slice X nx xc) (.slice (some ⟨gg, 0, none⟩) nd nd))
    unfold put2 at HB
    go_simp
    refine hK.out _ _ trivial (fun hHeld => ?_)
    clear hK K
    try simp only [Act.put, List.setIfInBounds_toArray, List.set_cons_zero, List.set_cons_succ]
    refine wpAnyH_done (by kernel_rfl) ?_ _
    refine NoPanic.normal ?_
  · 
    have hgr : w.heap.size + 1 + 1 ≤ gg := by rw [← hsz2]; exact hgw
    have hpr : w.heap.size + 1 + 1 ≤ bP := by rw [← hsz2]; exact hpw
    have hne2 : gg ≠ w.heap.size + 1 := by omega
    have hne3 : bP ≠ w.heap.size + 1 := by omega
    have HS1 := Lib.hid (show Since ((w.alloc (.cells #[.int .i64 ck, .slice X nx xc, .slice Y ny yc, .int .i64 cc] 25)).alloc (.cells #[.slice none 0 0, .slice none 0 0] 84)) _ from since_put2 hr0 hpw (.slice X nx xc) (.slice (some ⟨gg, 0, none⟩) nd nd))
    have HS0 := Lib.hid (show Since w _ from ((ka.out.trans kz.out).trans HS1.out))
    have OG := Lib.hid (show Og bP wq ((wq.setCell ⟨bP, 0, none⟩ (.slice X nx xc)).setCell ⟨bP, 1, none⟩ (.slice (some ⟨gg, 0, none⟩) nd nd)) from Og.put (Og.put (Og.refl bP wq) 0 _) 1 _)
    have MD4 := Lib.hid (OG.out.bx MD3.out hne)
    have HR4 := Lib.hid (HR.out.since (HS1.out))
    have H2Z := Lib.hid (show gg < wq.heap.size from MD3.out.lt)
    obtain ⟨W2, hW2⟩ : ∃ W2, W2 = (wq.setCell ⟨bP, 0, none⟩ (.slice X nx xc)).setCell ⟨bP, 1, none⟩ (.slice (some ⟨gg, 0, none⟩) nd nd) := ⟨_, rfl⟩
    have hsq : wq.heap.size = W2.heap.size := by rw [hW2]; simp [World.setCell]
    unfold put2 at HS1 HS0 HR4
    rw [← hW2] at HS1 HS0 HB MD4 HR4 ⊢
    have DM := Lib.hid (dat_made (w0 := W2) MD4.out)
    have LT2 := Lib.hid (show gg < W2.heap.size ∧ w.heap.size + 1 < W2.heap.size from ⟨by rw [← hsq]; exact H2Z.out, by have := HS1.out.size; rw [hsz2] at this; omega⟩)
    clear HZ HZ2 MD MD3 OG MD4 hW2 hsq H2Z hr0 hra hgw hpw
    go_wp2
    go_loopw [15] (fun i wr => ∃ (k : Nat), i = .int .i64 (k : Int) ∧ k ≤ nd ∧ Hid (DAt gg nd W2 wr (ds.take k ++ List.replicate (nd - k) [])) ∧ Hid (Bx wr bP #[.slice X nx xc, .slice (some ⟨gg, 0, none⟩) nd nd] 84) ∧ Hid (Bx wr (w.heap.size + 1) #[.slice none 0 0, .slice none 0 0] 84) ∧ Hid (Og gg W2 wr)) (fun i _ => nd - (intOf i).toNat)
    case atStart => exact ⟨0, rfl, Nat.zero_le _, Lib.hid (by simpa using DM.out), HB, HR4, Lib.hid (Og.refl _ _)⟩
    case round =>
      obtain ⟨k, rfl, hk, HRr, HP, HRR, HW⟩ := hrel
      have KR := Lib.hid (Og.all HS0.out HW.out (by omega))
      by_cases hkn : k < nd
      · have hkl : k < ds.length := by have := HN.out; omega
        obtain ⟨g3, o3, B3, cB, rfl, hS, e0⟩ := elD (HD.out.since stD KR.out) hkl
        have TK := Lib.hid (List.take_succ_eq_append_getElem hkl)
        have hdl := HDL.out _ (List.getElem_mem hkl)
        generalize ds[k] = y at *
        have EC := Lib.hid (fun W (kk : Since wr W) => show W.cell? ⟨g3, o3 + k, none⟩ = _ from (kk.cell _ (World.block_lt_of_cell? _ _ e0)).trans e0)
        have CLO := Lib.hid (fun W (kk : Since wr W) => clone_new (hS.since stR kk) (by omega) kk)
        have PU := Lib.hid (fun (w2 : World) (u : Value) (k2 : Since wr w2) (hu : NewR wr w2 u y) => HRr.out.put2 k2 (i := k) hkn hu HW.out.size (Nat.lt_of_lt_of_le LT2.out.1 HW.out.size))
        have FZ := Lib.hid (fun (w2 : World) (k2 : Since wr w2) => (HRr.out.since k2).no hkn)
        have CE := Lib.hid (fun (w2 : World) (k2 : Since wr w2) => show ∃ u, w2.cell? ⟨gg, k, none⟩ = some u from (let ⟨A, c, h1, _⟩ := (HRr.out.since k2).get (i := k) (by have := HN.out; simp; omega); ⟨_, h1⟩))
        generalize y.length = yl at *
        clear hS hkl e0
        go_wp2
        have hr0 : Since wr wr.drew := Since.drew (Since.refl wr)
        refine wp_region_noPanic ?_
        refine Reg.wp_region_G (S := fun _ => True) (fun j => [9].contains j) (by kernel_rfl) trivial ?_
        refine' Reg.tk3 (i := 0) (v := _) (some 18) [1, 8, 9] [9] rfl (Or.inl ⟨by rfl, Or.inl ?hy123⟩) ?rest123
        case hy123 => (intro w' kk ss; obtain ⟨x0, x1⟩ := (HP.out.since (hr0.trans kk)).two; have y0 := EC.out _ (hr0.trans kk); go_simp; first | done | with_reducible rfl)
        try simp only [Act.put, List.setIfInBounds_toArray, List.set_cons_zero, List.set_cons_succ]
        refine' Reg.tk3 (i := 1) (v := _) (some 19) [8, 9] [9] rfl (Or.inl ⟨by rfl, Or.inl ?hy124⟩) ?rest124
        case hy124 => (intro w' kk ss; obtain ⟨x0, x1⟩ := (HP.out.since (hr0.trans kk)).two; have y0 := EC.out _ (hr0.trans kk); go_simp; first | done | with_reducible rfl)
        try simp only [Act.put, List.setIfInBounds_toArray, List.set_cons_zero, List.set_cons_succ]
        refine' Reg.tk3 (i := 2) (v := _) (some 20) [8, 9] [9] rfl (Or.inl ⟨by rfl, Or.inl ?hy125⟩) ?rest125
        case hy125 => (intro w' kk ss; obtain ⟨x0, x1⟩ := (HP.out.since (hr0.trans kk)).two; have y0 := EC.out _ (hr0.trans kk); go_simp; first | done | with_reducible rfl)
        try simp only [Act.put, List.setIfInBounds_toArray, List.set_cons_zero, List.set_cons_succ]
        refine' Reg.tk3 (i := 3) (v := _) (some 21) [5, 6, 7, 8, 9] [9] rfl (Or.inl ⟨by rfl, Or.inl ?hy126⟩) ?rest126
        case hy126 => (intro w' kk ss; obtain ⟨x0, x1⟩ := (HP.out.since (hr0.trans kk)).two; have y0 := EC.out _ (hr0.trans kk); go_simp; first | done | with_reducible rfl)
        try simp only [Act.put, List.setIfInBounds_toArray, List.set_cons_zero, List.set_cons_succ]
        refine' Reg.tk3 (i := 4) (v := _) (some 22) [5, 6, 7, 8, 9] [9] rfl (Or.inl ⟨by rfl, Or.inl ?hy127⟩) ?rest127
        case hy127 => (intro w' kk ss; obtain ⟨x0, x1⟩ := (HP.out.since (hr0.trans kk)).two; have y0 := EC.out _ (hr0.trans kk); go_simp; first | done | with_reducible rfl)
        try simp only [Act.put, List.setIfInBounds_toArray, List.set_cons_zero, List.set_cons_succ]
        refine' Reg.tk3 (i := 5) (v := _) (some 23) [6, 7, 8, 9] [9] rfl (Or.inl ⟨by rfl, Or.inl ?hy128⟩) ?rest128
        case hy128 => (intro w' kk ss; obtain ⟨x0, x1⟩ := (HP.out.since (hr0.trans kk)).two; have y0 := EC.out _ (hr0.trans kk); go_simp; first | done | with_reducible rfl)
        try simp only [Act.put, List.setIfInBounds_toArray, List.set_cons_zero, List.set_cons_succ]
        refine' Reg.tk3 (i := 6) (v := _) (some 24) [7, 8, 9] [9] rfl (Or.inl ⟨by rfl, Or.inl ?hy129⟩) ?rest129
        case hy129 => (intro w' kk ss; obtain ⟨x0, x1⟩ := (HP.out.since (hr0.trans kk)).two; have y0 := EC.out _ (hr0.trans kk); go_simp; first | done | with_reducible rfl)
        try simp only [Act.put, List.setIfInBounds_toArray, List.set_cons_zero, List.set_cons_succ]
        refine Reg.wpG_ready (rs := [7]) (by kernel_rfl) (by simp) (fun wa1 ka1 sa1 => ?_)
        have hr0 := hr0.trans ka1
        have hgb1 := hr0.size
        refine Reg.AllG.first (o := { dst := some 25, op := Op.call { callee := Callee.value (Operand.func 102), args := #[Operand.tmp 24], argTypes := #[43] }, type := 43, pos := "places.go:34", after := #[{ on := 6, ground := Ground.data }], guard := none }) rfl (by rfl) (fun K hK => ?_) Reg.AllG.nil
        go_simp
        (with_reducible refine (CLO.out wa1 hr0).mono ?_)
        rintro e ya1 ⟨A2, m2, c2, rfl, hm2, q1, hx⟩
        refine hK.out _ _ trivial hx ?_
        clear hK K
        have hr0 := hr0.trans hx
        try simp only [Act.put, List.setIfInBounds_toArray, List.set_cons_zero, List.set_cons_succ]
        refine' Reg.tk3 (i := 8) (v := _) (some 26) [9] [9] rfl (Or.inl ⟨by rfl, Or.inl ?hy130⟩) ?rest130
        case hy130 => (intro w' kk ss; obtain ⟨x0, x1⟩ := (HP.out.since (hr0.trans kk)).two; have y0 := EC.out _ (hr0.trans kk); go_simp; first | done | with_reducible rfl)
        try simp only [Act.put, List.setIfInBounds_toArray, List.set_cons_zero, List.set_cons_succ]
        refine Reg.wpG_ready (rs := [9]) (by kernel_rfl) (by simp) (fun wq kq sq => ?_)
        have hr0 := hr0.trans kq
        refine Reg.AllG.last (o := { dst := none, op := Op.store 43 (Operand.tmp 26) (Operand.tmp 25), type := 0, pos := "places.go:34", after := #[{ on := 8, ground := Ground.data }, { on := 7, ground := Ground.data }, { on := 7, ground := Ground.chain }, { on := 0, ground := Ground.phase }, { on := 1, ground := Ground.phase }, { on := 2, ground := Ground.phase }, { on := 3, ground := Ground.phase }, { on := 4, ground := Ground.phase }, { on := 5, ground := Ground.phase }, { on := 6, ground := Ground.phase }, { on := 7, ground := Ground.phase }], guard := none }) rfl (by rfl) (fun K hK => ?_) Reg.AllG.nil
        have q1 := q1.since kq
        have PU0 := Lib.hid (PU.out _ _ hr0 q1)
        have zf := FZ.out _ hr0
        obtain ⟨zu, z0⟩ := CE.out _ hr0
        have BP2 := Lib.hid (Og.bx (Og.put (Og.refl gg wq) k (.slice A2 m2 c2)) (HP.out.since hr0) (Ne.symm hne))
        have BR2 := Lib.hid (Og.bx (Og.put (Og.refl gg wq) k (.slice A2 m2 c2)) (HRR.out.since hr0) (Ne.symm hne2))
        have KW := Lib.hid (Og.put (HW.out.since hr0) k (.slice A2 m2 c2))
        go_simp
        refine hK.out _ _ trivial (fun hHeld => ?_)
        clear hK K
        try simp only [Act.put, List.setIfInBounds_toArray, List.set_cons_zero, List.set_cons_succ]
        refine wpAnyH_done (by kernel_rfl) ?_ _
        refine NoPanic.normal ?_
        go_wp2
        go_roundw
        case rel =>
          refine ⟨k + 1, by go_num, by omega, Lib.hid ?_, BP2, BR2, KW⟩
          have h := PU0.out
          have e : (ds.take k ++ List.replicate (nd - k) []).set k y = ds.take (k + 1) ++ List.replicate (nd - (k + 1)) [] := by
            rw [TK.out, show nd - k = (nd - (k + 1)) + 1 by omega, List.replicate_succ]
            exact set_mid _ _ _ _ (by rw [List.length_take]; have := HN.out; omega)
          rw [e] at h
          exact h
        case measure => simp [intOf]; omega
      · obtain rfl : k = nd := by omega
        obtain ⟨p0, p1⟩ := HP.out.two
        obtain ⟨r0, r1⟩ := HRR.out.two
        obtain ⟨s0, s1⟩ := HRR.out.two'
        have D9 := Lib.hid (HRR.out.put2 (.slice X nx xc) (.slice (some ⟨gg, 0, none⟩) k k))
        have K9 := Lib.hid (show Since w _ from since_put2 KR.out (show w.heap.size ≤ w.heap.size + 1 by omega) (.slice X nx xc) (.slice (some ⟨gg, 0, none⟩) k k))
        have DD := Lib.hid (show DAt gg k W2 wr ds from by
          have h := HRr.out
          rwa [Nat.sub_self, List.replicate_zero, List.append_nil, List.take_of_length_le (by have := HN.out; omega)] at h)
        have DF := Lib.hid (dat_other DD.out (Og.put (Og.put (Og.refl (w.heap.size + 1) wr) 0 (.slice X nx xc)) 1 (.slice (some ⟨gg, 0, none⟩) k k)) (Ne.symm hne2) LT2.out.2)
        have SZ := Lib.hid (show gg < ((wr.setCell ⟨w.heap.size + 1, 0, none⟩ (.slice X nx xc)).setCell ⟨w.heap.size + 1, 1, none⟩ (.slice (some ⟨gg, 0, none⟩) k k)).heap.size from by simp [World.setCell]; exact Nat.lt_of_lt_of_le LT2.out.1 HW.out.size)
        unfold put2 at K9 D9
        go_wp2
        refine bodyPost_ret (v := .agg #[.slice X nx xc, .slice (some ⟨gg, 0, none⟩) k k]) ?_ rfl ⟨X, xc, gg, k, ⟨_, _, rfl⟩, rfl, by first | rfl | exact HN.out.symm, by omega, SZ.out, DAt.low DF.out HS0.out.size, K9.out⟩
        have hd9 := D9.out
        unfold Bx at hd9
        exact results_cell_row rfl _ _ _ _ _ _ _ rfl hd9 Try.underlying84 rfl (by kernel_rfl)
  · 
    have hgr : w.heap.size + 1 + 1 ≤ gg := by rw [← hsz2]; exact hgw
    have hpr : w.heap.size + 1 + 1 ≤ bP := by rw [← hsz2]; exact hpw
    have hne2 : gg ≠ w.heap.size + 1 := by omega
    have hne3 : bP ≠ w.heap.size + 1 := by omega
    have HS1 := Lib.hid (show Since ((w.alloc (.cells #[.int .i64 ck, .slice X nx xc, .slice Y ny yc, .int .i64 cc] 25)).alloc (.cells #[.slice none 0 0, .slice none 0 0] 84)) _ from since_put2 hr0 hpw (.slice X nx xc) (.slice (some ⟨gg, 0, none⟩) nd nd))
    have HS0 := Lib.hid (show Since w _ from ((ka.out.trans kz.out).trans HS1.out))
    have OG := Lib.hid (show Og bP wq ((wq.setCell ⟨bP, 0, none⟩ (.slice X nx xc)).setCell ⟨bP, 1, none⟩ (.slice (some ⟨gg, 0, none⟩) nd nd)) from Og.put (Og.put (Og.refl bP wq) 0 _) 1 _)
    have MD4 := Lib.hid (OG.out.bx MD3.out hne)
    have HR4 := Lib.hid (HR.out.since (HS1.out))
    have H2Z := Lib.hid (show gg < wq.heap.size from MD3.out.lt)
    obtain ⟨W2, hW2⟩ : ∃ W2, W2 = (wq.setCell ⟨bP, 0, none⟩ (.slice X nx xc)).setCell ⟨bP, 1, none⟩ (.slice (some ⟨gg, 0, none⟩) nd nd) := ⟨_, rfl⟩
    have hsq : wq.heap.size = W2.heap.size := by rw [hW2]; simp [World.setCell]
    unfold put2 at HS1 HS0 HR4
    rw [← hW2] at HS1 HS0 HB MD4 HR4 ⊢
    have DM := Lib.hid (dat_made (w0 := W2) MD4.out)
    have LT2 := Lib.hid (show gg < W2.heap.size ∧ w.heap.size + 1 < W2.heap.size from ⟨by rw [← hsq]; exact H2Z.out, by have := HS1.out.size; rw [hsz2] at this; omega⟩)
    clear HZ HZ2 MD MD3 OG MD4 hW2 hsq H2Z hr0 hra hgw hpw
    go_wp2
    go_loopw [15] (fun i wr => ∃ (k : Nat), i = .int .i64 (k : Int) ∧ k ≤ nd ∧ Hid (DAt gg nd W2 wr (ds.take k ++ List.replicate (nd - k) [])) ∧ Hid (Bx wr bP #[.slice X nx xc, .slice (some ⟨gg, 0, none⟩) nd nd] 84) ∧ Hid (Bx wr (w.heap.size + 1) #[.slice none 0 0, .slice none 0 0] 84) ∧ Hid (Og gg W2 wr)) (fun i _ => nd - (intOf i).toNat)
    case atStart => exact ⟨0, rfl, Nat.zero_le _, Lib.hid (by simpa using DM.out), HB, HR4, Lib.hid (Og.refl _ _)⟩
    case round =>
      obtain ⟨k, rfl, hk, HRr, HP, HRR, HW⟩ := hrel
      have KR := Lib.hid (Og.all HS0.out HW.out (by omega))
      by_cases hkn : k < nd
      · have hkl : k < ds.length := by have := HN.out; omega
        obtain ⟨g3, o3, B3, cB, rfl, hS, e0⟩ := elD (HD.out.since stD KR.out) hkl
        have TK := Lib.hid (List.take_succ_eq_append_getElem hkl)
        have hdl := HDL.out _ (List.getElem_mem hkl)
        generalize ds[k] = y at *
        have EC := Lib.hid (fun W (kk : Since wr W) => show W.cell? ⟨g3, o3 + k, none⟩ = _ from (kk.cell _ (World.block_lt_of_cell? _ _ e0)).trans e0)
        have CLO := Lib.hid (fun W (kk : Since wr W) => clone_new (hS.since stR kk) (by omega) kk)
        have PU := Lib.hid (fun (w2 : World) (u : Value) (k2 : Since wr w2) (hu : NewR wr w2 u y) => HRr.out.put2 k2 (i := k) hkn hu HW.out.size (Nat.lt_of_lt_of_le LT2.out.1 HW.out.size))
        have FZ := Lib.hid (fun (w2 : World) (k2 : Since wr w2) => (HRr.out.since k2).no hkn)
        have CE := Lib.hid (fun (w2 : World) (k2 : Since wr w2) => show ∃ u, w2.cell? ⟨gg, k, none⟩ = some u from (let ⟨A, c, h1, _⟩ := (HRr.out.since k2).get (i := k) (by have := HN.out; simp; omega); ⟨_, h1⟩))
        generalize y.length = yl at *
        clear hS hkl e0
        go_wp2
        have hr0 : Since wr wr.drew := Since.drew (Since.refl wr)
        refine wp_region_noPanic ?_
        refine Reg.wp_region_G (S := fun _ => True) (fun j => [9].contains j) (by kernel_rfl) trivial ?_
        refine' Reg.tk3 (i := 0) (v := _) (some 18) [1, 8, 9] [9] rfl (Or.inl ⟨by rfl, Or.inl ?hy131⟩) ?rest131
        case hy131 => (intro w' kk ss; obtain ⟨x0, x1⟩ := (HP.out.since (hr0.trans kk)).two; have y0 := EC.out _ (hr0.trans kk); go_simp; first | done | with_reducible rfl)
        try simp only [Act.put, List.setIfInBounds_toArray, List.set_cons_zero, List.set_cons_succ]
        refine' Reg.tk3 (i := 1) (v := _) (some 19) [8, 9] [9] rfl (Or.inl ⟨by rfl, Or.inl ?hy132⟩) ?rest132
        case hy132 => (intro w' kk ss; obtain ⟨x0, x1⟩ := (HP.out.since (hr0.trans kk)).two; have y0 := EC.out _ (hr0.trans kk); go_simp; first | done | with_reducible rfl)
        try simp only [Act.put, List.setIfInBounds_toArray, List.set_cons_zero, List.set_cons_succ]
        refine' Reg.tk3 (i := 2) (v := _) (some 20) [8, 9] [9] rfl (Or.inl ⟨by rfl, Or.inl ?hy133⟩) ?rest133
        case hy133 => (intro w' kk ss; obtain ⟨x0, x1⟩ := (HP.out.since (hr0.trans kk)).two; have y0 := EC.out _ (hr0.trans kk); go_simp; first | done | with_reducible rfl)
        try simp only [Act.put, List.setIfInBounds_toArray, List.set_cons_zero, List.set_cons_succ]
        refine' Reg.tk3 (i := 3) (v := _) (some 21) [5, 6, 7, 8, 9] [9] rfl (Or.inl ⟨by rfl, Or.inl ?hy134⟩) ?rest134
        case hy134 => (intro w' kk ss; obtain ⟨x0, x1⟩ := (HP.out.since (hr0.trans kk)).two; have y0 := EC.out _ (hr0.trans kk); go_simp; first | done | with_reducible rfl)
        try simp only [Act.put, List.setIfInBounds_toArray, List.set_cons_zero, List.set_cons_succ]
        refine' Reg.tk3 (i := 4) (v := _) (some 22) [5, 6, 7, 8, 9] [9] rfl (Or.inl ⟨by rfl, Or.inl ?hy135⟩) ?rest135
        case hy135 => (intro w' kk ss; obtain ⟨x0, x1⟩ := (HP.out.since (hr0.trans kk)).two; have y0 := EC.out _ (hr0.trans kk); go_simp; first | done | with_reducible rfl)
        try simp only [Act.put, List.setIfInBounds_toArray, List.set_cons_zero, List.set_cons_succ]
        refine' Reg.tk3 (i := 5) (v := _) (some 23) [6, 7, 8, 9] [9] rfl (Or.inl ⟨by rfl, Or.inl ?hy136⟩) ?rest136
        case hy136 => (intro w' kk ss; obtain ⟨x0, x1⟩ := (HP.out.since (hr0.trans kk)).two; have y0 := EC.out _ (hr0.trans kk); go_simp; first | done | with_reducible rfl)
        try simp only [Act.put, List.setIfInBounds_toArray, List.set_cons_zero, List.set_cons_succ]
        refine' Reg.tk3 (i := 6) (v := _) (some 24) [7, 8, 9] [9] rfl (Or.inl ⟨by rfl, Or.inl ?hy137⟩) ?rest137
        case hy137 => (intro w' kk ss; obtain ⟨x0, x1⟩ := (HP.out.since (hr0.trans kk)).two; have y0 := EC.out _ (hr0.trans kk); go_simp; first | done | with_reducible rfl)
        try simp only [Act.put, List.setIfInBounds_toArray, List.set_cons_zero, List.set_cons_succ]
        refine Reg.wpG_ready (rs := [7]) (by kernel_rfl) (by simp) (fun wa1 ka1 sa1 => ?_)
        have hr0 := hr0.trans ka1
        have hgb1 := hr0.size
        refine Reg.AllG.first (o := { dst := some 25, op := Op.call { callee := Callee.value (Operand.func 102), args := #[Operand.tmp 24], argTypes := #[43] }, type := 43, pos := "places.go:34", after := #[{ on := 6, ground := Ground.data }], guard := none }) rfl (by rfl) (fun K hK => ?_) Reg.AllG.nil
        go_simp
        (with_reducible refine (CLO.out wa1 hr0).mono ?_)
        rintro e ya1 ⟨A2, m2, c2, rfl, hm2, q1, hx⟩
        refine hK.out _ _ trivial hx ?_
        clear hK K
        have hr0 := hr0.trans hx
        try simp only [Act.put, List.setIfInBounds_toArray, List.set_cons_zero, List.set_cons_succ]
        refine' Reg.tk3 (i := 8) (v := _) (some 26) [9] [9] rfl (Or.inl ⟨by rfl, Or.inl ?hy138⟩) ?rest138
        case hy138 => (intro w' kk ss; obtain ⟨x0, x1⟩ := (HP.out.since (hr0.trans kk)).two; have y0 := EC.out _ (hr0.trans kk); go_simp; first | done | with_reducible rfl)
        try simp only [Act.put, List.setIfInBounds_toArray, List.set_cons_zero, List.set_cons_succ]
        refine Reg.wpG_ready (rs := [9]) (by kernel_rfl) (by simp) (fun wq kq sq => ?_)
        have hr0 := hr0.trans kq
        refine Reg.AllG.last (o := { dst := none, op := Op.store 43 (Operand.tmp 26) (Operand.tmp 25), type := 0, pos := "places.go:34", after := #[{ on := 8, ground := Ground.data }, { on := 7, ground := Ground.data }, { on := 7, ground := Ground.chain }, { on := 0, ground := Ground.phase }, { on := 1, ground := Ground.phase }, { on := 2, ground := Ground.phase }, { on := 3, ground := Ground.phase }, { on := 4, ground := Ground.phase }, { on := 5, ground := Ground.phase }, { on := 6, ground := Ground.phase }, { on := 7, ground := Ground.phase }], guard := none }) rfl (by rfl) (fun K hK => ?_) Reg.AllG.nil
        have q1 := q1.since kq
        have PU0 := Lib.hid (PU.out _ _ hr0 q1)
        have zf := FZ.out _ hr0
        obtain ⟨zu, z0⟩ := CE.out _ hr0
        have BP2 := Lib.hid (Og.bx (Og.put (Og.refl gg wq) k (.slice A2 m2 c2)) (HP.out.since hr0) (Ne.symm hne))
        have BR2 := Lib.hid (Og.bx (Og.put (Og.refl gg wq) k (.slice A2 m2 c2)) (HRR.out.since hr0) (Ne.symm hne2))
        have KW := Lib.hid (Og.put (HW.out.since hr0) k (.slice A2 m2 c2))
        go_simp
        refine hK.out _ _ trivial (fun hHeld => ?_)
        clear hK K
        try simp only [Act.put, List.setIfInBounds_toArray, List.set_cons_zero, List.set_cons_succ]
        refine wpAnyH_done (by kernel_rfl) ?_ _
        refine NoPanic.normal ?_
        go_wp2
        go_roundw
        case rel =>
          refine ⟨k + 1, by go_num, by omega, Lib.hid ?_, BP2, BR2, KW⟩
          have h := PU0.out
          have e : (ds.take k ++ List.replicate (nd - k) []).set k y = ds.take (k + 1) ++ List.replicate (nd - (k + 1)) [] := by
            rw [TK.out, show nd - k = (nd - (k + 1)) + 1 by omega, List.replicate_succ]
            exact set_mid _ _ _ _ (by rw [List.length_take]; have := HN.out; omega)
          rw [e] at h
          exact h
        case measure => simp [intOf]; omega
      · obtain rfl : k = nd := by omega
        obtain ⟨p0, p1⟩ := HP.out.two
        obtain ⟨r0, r1⟩ := HRR.out.two
        obtain ⟨s0, s1⟩ := HRR.out.two'
        have D9 := Lib.hid (HRR.out.put2 (.slice X nx xc) (.slice (some ⟨gg, 0, none⟩) k k))
        have K9 := Lib.hid (show Since w _ from since_put2 KR.out (show w.heap.size ≤ w.heap.size + 1 by omega) (.slice X nx xc) (.slice (some ⟨gg, 0, none⟩) k k))
        have DD := Lib.hid (show DAt gg k W2 wr ds from by
          have h := HRr.out
          rwa [Nat.sub_self, List.replicate_zero, List.append_nil, List.take_of_length_le (by have := HN.out; omega)] at h)
        have DF := Lib.hid (dat_other DD.out (Og.put (Og.put (Og.refl (w.heap.size + 1) wr) 0 (.slice X nx xc)) 1 (.slice (some ⟨gg, 0, none⟩) k k)) (Ne.symm hne2) LT2.out.2)
        have SZ := Lib.hid (show gg < ((wr.setCell ⟨w.heap.size + 1, 0, none⟩ (.slice X nx xc)).setCell ⟨w.heap.size + 1, 1, none⟩ (.slice (some ⟨gg, 0, none⟩) k k)).heap.size from by simp [World.setCell]; exact Nat.lt_of_lt_of_le LT2.out.1 HW.out.size)
        unfold put2 at K9 D9
        go_wp2
        refine bodyPost_ret (v := .agg #[.slice X nx xc, .slice (some ⟨gg, 0, none⟩) k k]) ?_ rfl ⟨X, xc, gg, k, ⟨_, _, rfl⟩, rfl, by first | rfl | exact HN.out.symm, by omega, SZ.out, DAt.low DF.out HS0.out.size, K9.out⟩
        have hd9 := D9.out
        unfold Bx at hd9
        exact results_cell_row rfl _ _ _ _ _ _ _ rfl hd9 Try.underlying84 rfl (by kernel_rfl)
theorem placesOf_at (vd : Value) (c : Cn) (ds : Ln.Ds) (w : World) {ck cc : Int} {X Y : Option Addr} {nx xc ny yc : Nat} (h : ConAt w (.agg #[.int .i64 ck, .slice X nx xc, .slice Y ny yc, .int .i64 cc]) c) (hd : Sl 1 QD w vd ds) (hl : ds.length ≤ 100000) (hdl : ∀ d ∈ ds, d.length ≤ 1100000) :
    Calls Try.prog 66 #[.agg #[.int .i64 ck, .slice X nx xc, .slice Y ny yc, .int .i64 cc], vd] w (fun e w' => ∃ g n, e = .returned (.agg #[.slice X nx xc, .slice (some ⟨g, 0, none⟩) n n]) ∧ n = ds.length ∧ w.heap.size ≤ g ∧ g < w'.heap.size ∧ DAt g n w w' ds ∧ Since w w') :=
  (placesOf_any _ vd c ds w h hd hl hdl).mono fun e w' hh => by
    obtain ⟨X', xc', g, n, ⟨u, a, hv⟩, rfl, h1⟩ := hh
    simp only [Value.agg.injEq, Array.mk.injEq, List.cons.injEq, Value.slice.injEq] at hv
    obtain ⟨-, ⟨rfl, e1, rfl⟩, -⟩ := hv
    exact ⟨g, n, by rw [e1], h1⟩
end Go.Proofs.Ytilgmkhcpmegjaa.Lgc
