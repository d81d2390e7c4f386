/- Layer 12 (linear): the document's own Ends. -/
import Derived.Test.YtakfabaocgbbmaaMb2
import Derived.Test.YtakfabaocgbbmaaLa
import Derived.Laws.ResultCell
namespace Go.Proofs.Ytakfabaocgbbmaa.Ln
open Go.RowKit
set_option linter.unusedVariables false
set_option linter.unusedSimpArgs false
open Go.Proofs.Ytakfabaocgbbmaa.Dig Go.Proofs.Ytakfabaocgbbmaa.Lx Go.Proofs.Ytakfabaocgbbmaa.Tk Go.Proofs.Ytakfabaocgbbmaa.Ti Go.Proofs.Ytakfabaocgbbmaa.Zs Go.Proofs.Ytakfabaocgbbmaa.Tr Go.Proofs.Ytakfabaocgbbmaa.Sn

/-- numbers that lie there -/
def NegAt (w : World) (v : Value) (l : List Int) : Prop := Sl 1 QI w v l
theorem NegAt.since {w w' : World} {v : Value} {l : List Int} (h : NegAt w v l) (k : Since w w') : NegAt w' v l := Sl.since stI h k
theorem lsum_neg : ∀ (l : List (Int × Int)) (D : Ds), -lsum ((l.map fun p => (-p.1, p.2)).map (tm D)) = gsum (l.map (tm D))
  | [], D => rfl
  | p :: l, D => by
    have ih := lsum_neg l D
    simp only [List.map_cons, lsum, gsum, mnT, mxT, tm] at ih ⊢
    rw [← ih, Int.neg_mul, Int.neg_mul]
    omega
theorem neg_zip (a x : List Int) : (neg a).zip x = (a.zip x).map fun p => (-p.1, p.2) := by
  unfold neg
  rw [List.zip_map_left]
  rfl
theorem ends_neg (a x : List Int) (D : Ds) : -lsum (tms (neg a) x D) = gsum (tms a x D) := by
  unfold tms
  rw [neg_zip]
  exact lsum_neg _ _
/-- the call ends in two numbers, or in none -/
def RetE3 (r : Option (Int × Int)) (w : World) (e : Ending) (w' : World) : Prop := e = .returned (.tuple #[.agg #[.int .i64 (r.getD (0, 0)).1, .int .i64 (r.getD (0, 0)).2], .bool r.isSome]) ∧ Since w w'
set_option maxRecDepth 20000 in
set_option maxHeartbeats 3000000 in
theorem rends_any2 (v vd : Value) (c : Cn) (ds : Ds) (w : World) (h : ConAt w v c) (hd : Sl 1 QD w vd ds) (hs : SzM ⟨ds, [c], 0, 0⟩) (hbd : ∀ d ∈ ds, Bd d) :
    Calls Try.prog 17 #[v, vd] w (RetE3 (endO c ds) w) := by
  have FT := Lib.hid (fun W (k : Since w W) => rfit_any v vd c ds W (h.since k) (hd.since stD k) hs hbd)
  cases hm : modOk ⟨ds, [c], 0, 0⟩ with
  | false =>
    rw [hm] at FT
    rw [show endO c ds = none by rw [endO, if_neg (fun h => by rw [hm] at h; cases h.1)]]
    clear hm
    obtain ⟨vx, vy, rfl, h1, h2⟩ := h
    obtain ⟨ck, cx, ca, cc⟩ := c
    simp only at *
    obtain ⟨X, xc, rfl⟩ := h1.form
    obtain ⟨Y, yc, rfl⟩ := h2.form
    obtain ⟨D, dc, rfl⟩ := hd.form
    generalize hnx : cx.length = nx at *
    generalize hny : ca.length = ny at *
    generalize hnd : List.length ds = nd at *
    have ka := Lib.hid (since_alloc w (.cells #[.int .i64 ck, .slice X nx xc, .slice Y ny yc, .int .i64 cc] 25))
    have BC := Lib.hid (Bx.fresh w #[.int .i64 ck, .slice X nx xc, .slice Y ny yc, .int .i64 cc] 25)
    clear h1 h2 hd hs hnx hny hnd hbd
    obtain ⟨b0, b1, b2, b3⟩ := bx4 BC.out
    have kz := Lib.hid (since_alloc (w.alloc (.cells #[.int .i64 ck, .slice X nx xc, .slice Y ny yc, .int .i64 cc] 25)) (.cells #[.int .i64 0, .int .i64 0] 36))
    have kw := Lib.hid (ka.out.trans kz.out)
    have BC2 := Lib.hid (BC.out.since kz.out)
    have BZ := Lib.hid (show Bx ((w.alloc (.cells #[.int .i64 ck, .slice X nx xc, .slice Y ny yc, .int .i64 cc] 25)).alloc (.cells #[.int .i64 0, .int .i64 0] 36)) (w.heap.size + 1) #[.int .i64 0, .int .i64 0] 36 from Bx.new (Since.refl _) (by simp))
    obtain ⟨b0', b1', b2', b3'⟩ := bx4 BC2.out
    go_enter Try.func17, Try.ntmps17
    go_wp2_with (go_at_call 19; (with_reducible refine (FT.out _ kw.out).mono ?_); rintro e w1 ⟨rfl, k1, -⟩; have K1 := Lib.hid (kw.out.trans k1); have L1 := Lib.hid k1; have BC3 := Lib.hid (BC2.out.since k1); have BZ3 := Lib.hid (BZ.out.since k1); obtain ⟨b0, b1, b2, b3⟩ := bx4 BC3.out; obtain ⟨f0, f1⟩ := BZ3.out.two; obtain ⟨g0, g1⟩ := BZ3.out.two'; have PB := (BZ3.out.put2 (.int .i64 0) (.int .i64 0)).two; unfold put2 at PB; obtain ⟨p0, p1⟩ := PB; clear k1)
    refine bodyPost_ret (v := .tuple #[.agg #[.int .i64 0, .int .i64 0], .bool false]) ?_ rfl ⟨rfl, since_put2 (b := w.heap.size + 1) K1.out (by simp) _ _⟩
    rw [results_cell_tmp rfl]
    go_simp
  | true =>
  obtain ⟨m1, m2, m3⟩ := mod_parts hm
  rw [hm] at FT
  by_cases hk : 1 ≤ c.k ∧ c.k ≤ 6
  case neg =>
    rw [show endO c ds = none by rw [endO, if_neg (fun h => hk h.2)]]
    clear hm m1 m2 m3
    by_cases hk1 : c.k < 1
    all_goals
      obtain ⟨vx, vy, rfl, h1, h2⟩ := h
      obtain ⟨ck, cx, ca, cc⟩ := c
      simp only at *
      obtain ⟨X, xc, rfl⟩ := h1.form
      obtain ⟨Y, yc, rfl⟩ := h2.form
      obtain ⟨D, dc, rfl⟩ := hd.form
      generalize hnx : cx.length = nx at *
      generalize hny : ca.length = ny at *
      generalize hnd : List.length ds = nd at *
      have ka := Lib.hid (since_alloc w (.cells #[.int .i64 ck, .slice X nx xc, .slice Y ny yc, .int .i64 cc] 25))
      have BC := Lib.hid (Bx.fresh w #[.int .i64 ck, .slice X nx xc, .slice Y ny yc, .int .i64 cc] 25)
      clear h1 h2 hd hs hnx hny hnd hbd
      obtain ⟨b0, b1, b2, b3⟩ := bx4 BC.out
      have kz := Lib.hid (since_alloc (w.alloc (.cells #[.int .i64 ck, .slice X nx xc, .slice Y ny yc, .int .i64 cc] 25)) (.cells #[.int .i64 0, .int .i64 0] 36))
      have kw := Lib.hid (ka.out.trans kz.out)
      have BC2 := Lib.hid (BC.out.since kz.out)
      have BZ := Lib.hid (show Bx ((w.alloc (.cells #[.int .i64 ck, .slice X nx xc, .slice Y ny yc, .int .i64 cc] 25)).alloc (.cells #[.int .i64 0, .int .i64 0] 36)) (w.heap.size + 1) #[.int .i64 0, .int .i64 0] 36 from Bx.new (Since.refl _) (by simp))
      obtain ⟨b0', b1', b2', b3'⟩ := bx4 BC2.out
      try have hk6 : 6 < ck := by omega
      clear hk
      go_enter Try.func17, Try.ntmps17
      go_wp2_with (go_at_call 19; (with_reducible refine (FT.out _ kw.out).mono ?_); rintro e w1 ⟨rfl, k1, -⟩; have K1 := Lib.hid (kw.out.trans k1); have L1 := Lib.hid k1; have BC3 := Lib.hid (BC2.out.since k1); have BZ3 := Lib.hid (BZ.out.since k1); obtain ⟨b0, b1, b2, b3⟩ := bx4 BC3.out; obtain ⟨f0, f1⟩ := BZ3.out.two; obtain ⟨g0, g1⟩ := BZ3.out.two'; have PB := (BZ3.out.put2 (.int .i64 0) (.int .i64 0)).two; unfold put2 at PB; obtain ⟨p0, p1⟩ := PB; clear k1)
      refine bodyPost_ret (v := .tuple #[.agg #[.int .i64 0, .int .i64 0], .bool false]) ?_ rfl ⟨rfl, since_put2 (b := w.heap.size + 1) K1.out (by simp) _ _⟩
      rw [results_cell_tmp rfl]
      go_simp
  obtain ⟨p1, p2, p3, p4, p5, p6⟩ := lin_parts m3 hk
  rw [show endO c ds = some (lsum (tms c.a c.x ds), gsum (tms c.a c.x ds)) by rw [endO, if_pos ⟨hm, hk⟩]]
  have hTB := lsum_bd (tms_bt m1 p1 p4)
  rw [tms_len p2] at hTB
  have hl9 : (c.a.length : Int) ≤ 1000 := by omega
  have LE := Lib.hid (fun W (k : Since w W) X Y (hX : Sl 1 QI W X c.x) (hY : Sl 1 QI W Y c.a) => rleast_any Y X vd c.a c.x ds W ⟨hY, hX, hd.since stD k, m1, p1, p2, p3, p4⟩)
  have OP := Lib.hid (fun W Y (hY : Sl 1 QI W Y c.a) => ropposite_any Y c.a W hY p3 p4)
  have LN := Lib.hid (fun W (k : Since w W) X Y (hX : Sl 1 QI W X c.x) (hY : NegAt W Y (neg c.a)) => rleast_any Y X vd (neg c.a) c.x ds W ⟨hY, hX, hd.since stD k, m1, p1, by rw [neg_len]; exact p2, by rw [neg_len]; exact p3, neg_within p4⟩)
  have hng := ends_neg c.a c.x ds
  generalize lsum (tms c.a c.x ds) = S at *
  generalize gsum (tms c.a c.x ds) = S2 at *
  generalize lsum (tms (neg c.a) c.x ds) = S3 at *
  have WN : IntKind.i64.wrap (-S3) = S2 := by rw [hng]; exact wrap_id' (by omega) (by omega)
  clear m1 m2 m3 p1 p2 p3 p4 p5 p6 hTB hm hng hl9
  obtain ⟨vx, vy, rfl, h1, h2⟩ := h
  obtain ⟨ck, cx, ca, cc⟩ := c
  simp only at *
  obtain ⟨X, xc, rfl⟩ := h1.form
  obtain ⟨Y, yc, rfl⟩ := h2.form
  obtain ⟨D, dc, rfl⟩ := hd.form
  have HX := Lib.hid h1
  have HY := Lib.hid h2
  generalize hnx : cx.length = nx at *
  generalize hny : ca.length = ny at *
  generalize hnd : List.length ds = nd at *
  have ka := Lib.hid (since_alloc w (.cells #[.int .i64 ck, .slice X nx xc, .slice Y ny yc, .int .i64 cc] 25))
  have BC := Lib.hid (Bx.fresh w #[.int .i64 ck, .slice X nx xc, .slice Y ny yc, .int .i64 cc] 25)
  clear h1 h2 hd hs hnx hny hnd hbd
  obtain ⟨b0, b1, b2, b3⟩ := bx4 BC.out
  have kz := Lib.hid (since_alloc (w.alloc (.cells #[.int .i64 ck, .slice X nx xc, .slice Y ny yc, .int .i64 cc] 25)) (.cells #[.int .i64 0, .int .i64 0] 36))
  have kw := Lib.hid (ka.out.trans kz.out)
  have BC2 := Lib.hid (BC.out.since kz.out)
  have BZ := Lib.hid (show Bx ((w.alloc (.cells #[.int .i64 ck, .slice X nx xc, .slice Y ny yc, .int .i64 cc] 25)).alloc (.cells #[.int .i64 0, .int .i64 0] 36)) (w.heap.size + 1) #[.int .i64 0, .int .i64 0] 36 from Bx.new (Since.refl _) (by simp))
  obtain ⟨b0', b1', b2', b3'⟩ := bx4 BC2.out
  have hk1 : ¬ ck < 1 := by omega
  have hk6 : ¬ ck > 6 := by omega
  clear hk
  go_enter Try.func17, Try.ntmps17
  go_wp2_with (go_at_call 19; (with_reducible refine (FT.out _ kw.out).mono ?_); rintro e w1 ⟨rfl, k1, -⟩; have K1 := Lib.hid (kw.out.trans k1); have L1 := Lib.hid k1; have BC3 := Lib.hid (BC2.out.since k1); have BZ3 := Lib.hid (BZ.out.since k1); obtain ⟨b0, b1, b2, b3⟩ := bx4 BC3.out; obtain ⟨f0, f1⟩ := BZ3.out.two; obtain ⟨g0, g1⟩ := BZ3.out.two'; have PB := (BZ3.out.put2 (.int .i64 0) (.int .i64 0)).two; unfold put2 at PB; obtain ⟨p0, p1⟩ := PB; clear k1)
  clear b0 b1 b2 b3 b0' b1' b2' b3' f0 f1 g0 g1 p0 p1
  have hr0 : Since w1 w1.drew := Since.drew (Since.refl w1)
  refine wp_region_noPanic ?_
  refine Reg.wp_region_G (S := fun _ => True) (fun j => [15, 16].contains j) (by kernel_rfl) trivial ?_
  refine' Reg.wpG_take (i := 0) (oi := { dst := some 21, op := Op.fieldAddr 25 (Operand.tmp 2) 2, type := 0, pos := "ref.go:164", after := #[], guard := none }) (v := _) [1, 5, 8, 12, 13, 14, 15, 16] [15, 16] rfl rfl (by kernel_rfl) (by kernel_rfl) (by kernel_rfl) (by kernel_rfl) (by kernel_rfl) (by kernel_rfl) (by kernel_rfl) (fun _ _ _ h => h) (Or.inl ⟨by rfl, Or.inl ?hy2⟩) ?rest2
  case hy2 => (intro w' kk ss; obtain ⟨x0, x1, x2', x3⟩ := bx4 (BC3.out.since (hr0.trans kk)); go_simp; first | done | with_reducible rfl)
  try simp only [Act.put, List.setIfInBounds_toArray, List.set_cons_zero, List.set_cons_succ]
  refine' Reg.wpG_take (i := 1) (oi := { dst := some 22, op := Op.load 23 (Operand.tmp 21), type := 23, pos := "ref.go:164", after := #[{ on := 0, ground := Ground.data }], guard := none }) (v := _) [5, 8, 12, 13, 14, 15, 16] [15, 16] rfl rfl (by kernel_rfl) (by kernel_rfl) (by kernel_rfl) (by kernel_rfl) (by kernel_rfl) (by kernel_rfl) (by kernel_rfl) (fun _ _ _ h => h) (Or.inl ⟨by rfl, Or.inl ?hy3⟩) ?rest3
  case hy3 => (intro w' kk ss; obtain ⟨x0, x1, x2', x3⟩ := bx4 (BC3.out.since (hr0.trans kk)); go_simp; first | done | with_reducible rfl)
  try simp only [Act.put, List.setIfInBounds_toArray, List.set_cons_zero, List.set_cons_succ]
  refine' Reg.wpG_take (i := 2) (oi := { dst := some 23, op := Op.fieldAddr 25 (Operand.tmp 2) 1, type := 0, pos := "ref.go:164", after := #[], guard := none }) (v := _) [3, 5, 8, 12, 13, 14, 15, 16] [15, 16] rfl rfl (by kernel_rfl) (by kernel_rfl) (by kernel_rfl) (by kernel_rfl) (by kernel_rfl) (by kernel_rfl) (by kernel_rfl) (fun _ _ _ h => h) (Or.inl ⟨by rfl, Or.inl ?hy4⟩) ?rest4
  case hy4 => (intro w' kk ss; obtain ⟨x0, x1, x2', x3⟩ := bx4 (BC3.out.since (hr0.trans kk)); go_simp; first | done | with_reducible rfl)
  try simp only [Act.put, List.setIfInBounds_toArray, List.set_cons_zero, List.set_cons_succ]
  refine' Reg.wpG_take (i := 3) (oi := { dst := some 24, op := Op.load 22 (Operand.tmp 23), type := 22, pos := "ref.go:164", after := #[{ on := 2, ground := Ground.data }], guard := none }) (v := _) [5, 8, 12, 13, 14, 15, 16] [15, 16] rfl rfl (by kernel_rfl) (by kernel_rfl) (by kernel_rfl) (by kernel_rfl) (by kernel_rfl) (by kernel_rfl) (by kernel_rfl) (fun _ _ _ h => h) (Or.inl ⟨by rfl, Or.inl ?hy5⟩) ?rest5
  case hy5 => (intro w' kk ss; obtain ⟨x0, x1, x2', x3⟩ := bx4 (BC3.out.since (hr0.trans kk)); go_simp; first | done | with_reducible rfl)
  try simp only [Act.put, List.setIfInBounds_toArray, List.set_cons_zero, List.set_cons_succ]
  refine' Reg.wpG_take (i := 4) (oi := { dst := some 25, op := Op.move (Operand.tmp 1), type := 26, pos := "ref.go:164", after := #[], guard := none }) (v := _) [5, 8, 12, 13, 14, 15, 16] [15, 16] rfl rfl (by kernel_rfl) (by kernel_rfl) (by kernel_rfl) (by kernel_rfl) (by kernel_rfl) (by kernel_rfl) (by kernel_rfl) (fun _ _ _ h => h) (Or.inl ⟨by rfl, Or.inl ?hy6⟩) ?rest6
  case hy6 => (intro w' kk ss; obtain ⟨x0, x1, x2', x3⟩ := bx4 (BC3.out.since (hr0.trans kk)); go_simp; first | done | with_reducible rfl)
  try simp only [Act.put, List.setIfInBounds_toArray, List.set_cons_zero, List.set_cons_succ]
  refine Reg.wpG_take (i := 5) (oi := { dst := some 26, op := Op.call { callee := Callee.value (Operand.func 48), args := #[Operand.tmp 22, Operand.tmp 24, Operand.tmp 25], argTypes := #[23, 22, 26] }, type := 2, pos := "ref.go:164", after := #[{ on := 1, ground := Ground.data }, { on := 3, ground := Ground.data }, { on := 4, ground := Ground.data }], guard := none }) (v := .int .i64 S) [8, 12, 13, 14, 15, 16] [15, 16] rfl rfl (by kernel_rfl) (by kernel_rfl) (by kernel_rfl) (by kernel_rfl) (by kernel_rfl) (by kernel_rfl) (by kernel_rfl) (fun _ _ _ h => h) (Or.inl ⟨by rfl, Or.inr ⟨48, #[.slice Y ny yc, .slice X nx xc, .slice D nd dc], fun w' kk ss => ⟨?_, ?_⟩⟩⟩) ?_
  · (try dsimp only at ss); go_simp
  · exact LE.out w' (K1.out.trans (hr0.trans kk)) _ _ (HX.out.since stI (K1.out.trans (hr0.trans kk))) (HY.out.since stI (K1.out.trans (hr0.trans kk)))
  try simp only [Act.put, List.setIfInBounds_toArray, List.set_cons_zero, List.set_cons_succ]
  refine' Reg.wpG_take (i := 6) (oi := { dst := some 27, op := Op.fieldAddr 25 (Operand.tmp 2) 2, type := 0, pos := "ref.go:164", after := #[], guard := none }) (v := _) [7, 8, 12, 13, 14, 15, 16] [15, 16] rfl rfl (by kernel_rfl) (by kernel_rfl) (by kernel_rfl) (by kernel_rfl) (by kernel_rfl) (by kernel_rfl) (by kernel_rfl) (fun _ _ _ h => h) (Or.inl ⟨by rfl, Or.inl ?hy7⟩) ?rest7
  case hy7 => (intro w' kk ss; obtain ⟨x0, x1, x2', x3⟩ := bx4 (BC3.out.since (hr0.trans kk)); go_simp; first | done | with_reducible rfl)
  try simp only [Act.put, List.setIfInBounds_toArray, List.set_cons_zero, List.set_cons_succ]
  refine' Reg.wpG_take (i := 7) (oi := { dst := some 28, op := Op.load 23 (Operand.tmp 27), type := 23, pos := "ref.go:164", after := #[{ on := 6, ground := Ground.data }], guard := none }) (v := _) [8, 12, 13, 14, 15, 16] [15, 16] rfl rfl (by kernel_rfl) (by kernel_rfl) (by kernel_rfl) (by kernel_rfl) (by kernel_rfl) (by kernel_rfl) (by kernel_rfl) (fun _ _ _ h => h) (Or.inl ⟨by rfl, Or.inl ?hy8⟩) ?rest8
  case hy8 => (intro w' kk ss; obtain ⟨x0, x1, x2', x3⟩ := bx4 (BC3.out.since (hr0.trans kk)); go_simp; first | done | with_reducible rfl)
  try simp only [Act.put, List.setIfInBounds_toArray, List.set_cons_zero, List.set_cons_succ]
  refine' Reg.wpG_take (i := 9) (oi := { dst := some 30, op := Op.fieldAddr 25 (Operand.tmp 2) 1, type := 0, pos := "ref.go:164", after := #[], guard := none }) (v := _) [10, 12, 13, 14, 15, 16] [15, 16] rfl rfl (by kernel_rfl) (by kernel_rfl) (by kernel_rfl) (by kernel_rfl) (by kernel_rfl) (by kernel_rfl) (by kernel_rfl) (fun _ _ _ h => h) (Or.inl ⟨by rfl, Or.inl ?hy9⟩) ?rest9
  case hy9 => (intro w' kk ss; obtain ⟨x0, x1, x2', x3⟩ := bx4 (BC3.out.since (hr0.trans kk)); go_simp; first | done | with_reducible rfl)
  try simp only [Act.put, List.setIfInBounds_toArray, List.set_cons_zero, List.set_cons_succ]
  refine' Reg.wpG_take (i := 10) (oi := { dst := some 31, op := Op.load 22 (Operand.tmp 30), type := 22, pos := "ref.go:164", after := #[{ on := 9, ground := Ground.data }], guard := none }) (v := _) [12, 13, 14, 15, 16] [15, 16] rfl rfl (by kernel_rfl) (by kernel_rfl) (by kernel_rfl) (by kernel_rfl) (by kernel_rfl) (by kernel_rfl) (by kernel_rfl) (fun _ _ _ h => h) (Or.inl ⟨by rfl, Or.inl ?hy10⟩) ?rest10
  case hy10 => (intro w' kk ss; obtain ⟨x0, x1, x2', x3⟩ := bx4 (BC3.out.since (hr0.trans kk)); go_simp; first | done | with_reducible rfl)
  try simp only [Act.put, List.setIfInBounds_toArray, List.set_cons_zero, List.set_cons_succ]
  refine' Reg.wpG_take (i := 11) (oi := { dst := some 32, op := Op.move (Operand.tmp 1), type := 26, pos := "ref.go:164", after := #[], guard := none }) (v := _) [12, 13, 14, 15, 16] [15, 16] rfl rfl (by kernel_rfl) (by kernel_rfl) (by kernel_rfl) (by kernel_rfl) (by kernel_rfl) (by kernel_rfl) (by kernel_rfl) (fun _ _ _ h => h) (Or.inl ⟨by rfl, Or.inl ?hy11⟩) ?rest11
  case hy11 => (intro w' kk ss; obtain ⟨x0, x1, x2', x3⟩ := bx4 (BC3.out.since (hr0.trans kk)); go_simp; first | done | with_reducible rfl)
  try simp only [Act.put, List.setIfInBounds_toArray, List.set_cons_zero, List.set_cons_succ]
  refine Reg.wpG_ready (rs := [8]) (by kernel_rfl) (by simp) (fun wq1001 k1001' sq1001 => ?_)
  have hr0 := hr0.trans k1001'
  refine Reg.AllG.first (o := { dst := some 29, op := Op.call { callee := Callee.value (Operand.func 49), args := #[Operand.tmp 28], argTypes := #[23] }, type := 23, pos := "ref.go:164", after := #[{ on := 7, ground := Ground.data }, { on := 5, ground := Ground.chain }], guard := none }) rfl (by rfl) (fun K hK => ?_) Reg.AllG.nil
  go_simp
  (with_reducible refine (OP.out wq1001 _ (HY.out.since stI (K1.out.trans hr0))).mono ?_)
  rintro e y1001 ⟨OA, oc, rfl, q1, hx⟩
  have q1' : NegAt _ (.slice OA ny oc) (neg ca) := q1
  clear q1
  refine hK.out _ _ trivial hx ?_
  clear hK K
  have hr0 := hr0.trans hx
  clear hx
  try simp only [Act.put, List.setIfInBounds_toArray, List.set_cons_zero, List.set_cons_succ]
  refine Reg.wpG_ready (rs := [12]) (by kernel_rfl) (by simp) (fun wq1002 k1002' sq1002 => ?_)
  have hr0 := hr0.trans k1002'
  have q1' := q1'.since k1002'
  refine Reg.AllG.first (o := { dst := some 33, op := Op.call { callee := Callee.value (Operand.func 48), args := #[Operand.tmp 29, Operand.tmp 31, Operand.tmp 32], argTypes := #[23, 22, 26] }, type := 2, pos := "ref.go:164", after := #[{ on := 8, ground := Ground.data }, { on := 10, ground := Ground.data }, { on := 11, ground := Ground.data }, { on := 8, ground := Ground.chain }], guard := none }) rfl (by rfl) (fun K hK => ?_) Reg.AllG.nil
  go_simp
  (with_reducible refine (LN.out wq1002 (K1.out.trans hr0) _ _ (HX.out.since stI (K1.out.trans hr0)) q1').mono ?_)
  rintro e y1002 ⟨rfl, hx, -⟩
  refine hK.out _ _ trivial hx ?_
  clear hK K
  have hr0 := hr0.trans hx
  have q1' := q1'.since hx
  clear hx
  try simp only [Act.put, List.setIfInBounds_toArray, List.set_cons_zero, List.set_cons_succ]
  refine' Reg.wpG_take (i := 13) (oi := { dst := some 34, op := Op.unOp UnOp.neg 2 (Operand.tmp 33), type := 2, pos := "ref.go:164", after := #[{ on := 12, ground := Ground.data }], guard := none }) (v := _) [14, 15, 16] [15, 16] rfl rfl (by kernel_rfl) (by kernel_rfl) (by kernel_rfl) (by kernel_rfl) (by kernel_rfl) (by kernel_rfl) (by kernel_rfl) (fun _ _ _ h => h) (Or.inl ⟨by rfl, Or.inl ?hy12⟩) ?rest12
  case hy12 => (intro w' kk ss; obtain ⟨x0, x1, x2', x3⟩ := bx4 (BC3.out.since (hr0.trans kk)); go_simp; first | done | with_reducible rfl)
  try simp only [Act.put, List.setIfInBounds_toArray, List.set_cons_zero, List.set_cons_succ]
  refine' Reg.wpG_take (i := 14) (oi := { dst := some 35, op := Op.build 36 #[(0, Operand.tmp 26), (1, Operand.tmp 34)], type := 36, pos := "ref.go:164", after := #[{ on := 5, ground := Ground.data }, { on := 13, ground := Ground.data }], guard := none }) (v := _) [15, 16] [15, 16] rfl rfl (by kernel_rfl) (by kernel_rfl) (by kernel_rfl) (by kernel_rfl) (by kernel_rfl) (by kernel_rfl) (by kernel_rfl) (fun _ _ _ h => h) (Or.inl ⟨by rfl, Or.inl ?hy13⟩) ?rest13
  case hy13 => (intro w' kk ss; obtain ⟨x0, x1, x2', x3⟩ := bx4 (BC3.out.since (hr0.trans kk)); go_simp; first | done | with_reducible rfl)
  try simp only [Act.put, List.setIfInBounds_toArray, List.set_cons_zero, List.set_cons_succ]
  refine Reg.wpG_ready (rs := [15]) (by kernel_rfl) (by simp) (fun wq k1003' sq => ?_)
  have hr0 := hr0.trans k1003'
  have q1' := q1'.since k1003'
  refine Reg.AllG.last (o := { dst := none, op := Op.store 36 (Operand.tmp 4) (Operand.tmp 35), type := 0, pos := "ref.go:164", after := #[{ on := 14, ground := Ground.data }, { on := 12, ground := Ground.chain }, { on := 0, ground := Ground.phase }, { on := 1, ground := Ground.phase }, { on := 2, ground := Ground.phase }, { on := 3, ground := Ground.phase }, { on := 4, ground := Ground.phase }, { on := 5, ground := Ground.phase }, { on := 6, ground := Ground.phase }, { on := 7, ground := Ground.phase }, { on := 8, ground := Ground.phase }, { on := 9, ground := Ground.phase }, { on := 10, ground := Ground.phase }, { on := 11, ground := Ground.phase }, { on := 12, ground := Ground.phase }, { on := 13, ground := Ground.phase }, { on := 14, ground := Ground.phase }], guard := none }) rfl (by rfl) (fun K hK => ?_) Reg.AllG.nil
  obtain ⟨f0, f1⟩ := (BZ3.out.since hr0).two
  obtain ⟨g0, g1⟩ := (BZ3.out.since hr0).two'
  have PB := ((BZ3.out.since hr0).put2 (.int .i64 S) (.int .i64 S2)).two
  unfold put2 at PB
  obtain ⟨p0, p1⟩ := PB
  go_simp
  refine hK.out _ _ trivial (fun hHeld => ?_)
  clear hK K
  try simp only [Act.put, List.setIfInBounds_toArray, List.set_cons_zero, List.set_cons_succ]
  refine' wpAnyH_take (i := 16) (oi := { dst := some 5, op := Op.assign (Operand.const (Value.bool true)), type := 4, pos := "ref.go:164", after := #[{ on := 15, ground := Ground.chain }, { on := 0, ground := Ground.phase }, { on := 1, ground := Ground.phase }, { on := 2, ground := Ground.phase }, { on := 3, ground := Ground.phase }, { on := 4, ground := Ground.phase }, { on := 5, ground := Ground.phase }, { on := 6, ground := Ground.phase }, { on := 7, ground := Ground.phase }, { on := 8, ground := Ground.phase }, { on := 9, ground := Ground.phase }, { on := 10, ground := Ground.phase }, { on := 11, ground := Ground.phase }, { on := 12, ground := Ground.phase }, { on := 13, ground := Ground.phase }, { on := 14, ground := Ground.phase }, { on := 15, ground := Ground.phase }], guard := none }) (v := _) rfl (by kernel_rfl) (by kernel_rfl) (by kernel_rfl) (fun _ _ _ h => h) (Or.inl ⟨by rfl, ?hy14⟩) (by assumption) ?rest14
  case hy14 => (intro w' ss; (try dsimp only at ss); go_simp; first | done | with_reducible rfl)
  try simp only [Act.put, List.setIfInBounds_toArray, List.set_cons_zero, List.set_cons_succ]
  refine wpAnyH_done (by kernel_rfl) ?_ _
  refine NoPanic.normal ?_
  go_wp2
  refine bodyPost_ret (v := .tuple #[.agg #[.int .i64 S, .int .i64 S2], .bool true]) ?_ rfl ⟨rfl, since_put2 (b := w.heap.size + 1) (K1.out.trans hr0) (by simp) _ _⟩
  rw [results_cell_tmp rfl]
  go_simp
end Go.Proofs.Ytakfabaocgbbmaa.Ln
