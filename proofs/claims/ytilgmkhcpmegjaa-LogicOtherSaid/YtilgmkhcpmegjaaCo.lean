/- Layer 15 (logic): the law's mine and alive. -/
import Derived.Test.YtilgmkhcpmegjaaCn
import Derived.Test.YtilgmkhcpmegjaaQbl
namespace Go.Proofs.Ytilgmkhcpmegjaa.Lgc
open Go.RowKit
set_option linter.unusedVariables false
set_option linter.unusedSimpArgs false
open Go.Proofs.Ytilgmkhcpmegjaa.Dig Go.Proofs.Ytilgmkhcpmegjaa.Lx Go.Proofs.Ytilgmkhcpmegjaa.Tk Go.Proofs.Ytilgmkhcpmegjaa.Ti Go.Proofs.Ytilgmkhcpmegjaa.Zs Go.Proofs.Ytilgmkhcpmegjaa.Tr Go.Proofs.Ytilgmkhcpmegjaa.Sn Go.Proofs.Ytilgmkhcpmegjaa.Ln Go.Proofs.Ytilgmkhcpmegjaa.At
def mineB (c : Cn) (ds : Ln.Ds) : Bool := decide (Lk c.k) && fits12 c ds && modOk ⟨ds, [c], 0, 0⟩
set_option maxRecDepth 20000 in
set_option maxHeartbeats 3000000 in
theorem mine_any (v vd : Value) (c : Cn) (ds : Ln.Ds) (w : World) (h : ConAt w v c) (hd : Sl 1 QD w vd ds) (hl : ds.length ≤ maxLen) (hdl : ∀ d ∈ ds, d.length ≤ maxLen) (hx : c.x.length ≤ maxLen) (ha : c.a.length ≤ maxLen) (hbd : ∀ d ∈ ds, Bd d) :
    Calls Try.prog 21 #[v, vd] w (Zs.RetT (mineB c ds) w) := by
  have FI := Lib.hid (fun W (k : Since w W) => fits12_any v vd c ds W (h.since k) (hd.since stD k) hl hdl hx ha)
  obtain ⟨f, hf⟩ : ∃ f, fits12 c ds = f := ⟨_, rfl⟩
  rw [hf] at FI
  by_cases hk : Lk c.k
  case neg =>
    rw [show mineB c ds = false by rw [mineB, decide_eq_false hk]; rfl]
    clear hf
    obtain ⟨vx, vy, rfl, h1, h2⟩ := h
    obtain ⟨ck, cx, ca, cc⟩ := c
    simp only at *
    obtain ⟨X, xc, rfl⟩ := h1.form
    obtain ⟨Y, yc, rfl⟩ := h2.form
    obtain ⟨D, dc, rfl⟩ := hd.form
    generalize hnx : cx.length = nx at *
    generalize hny : ca.length = ny at *
    generalize hnd : List.length ds = nd at *
    have ka := Lib.hid (since_alloc w (.cells #[.int .i64 ck, .slice X nx xc, .slice Y ny yc, .int .i64 cc] 25))
    have BC := Lib.hid (Bx.fresh w #[.int .i64 ck, .slice X nx xc, .slice Y ny yc, .int .i64 cc] 25)
    obtain ⟨b0, b1, b2, b3⟩ := bx4 BC.out
    clear h1 h2 hd hl hdl hx ha hbd hnx hny hnd
    by_cases c1 : ck ≥ 11
    · have c2 : ¬ ck ≤ 14 := by unfold Lk at hk; omega
      clear hk
      go_enter Try.func21, Try.ntmps21
      go_wp2
      go_ret
      exact .of rfl ka.out
    · clear hk
      go_enter Try.func21, Try.ntmps21
      go_wp2
      go_ret
      exact .of rfl ka.out
  have hb := fun (e : f = true) => fits12_sz (hf.trans e)
  have FT := Lib.hid (fun (e : f = true) W (k : Since w W) => rfit_any v vd c ds W (h.since k) (hd.since stD k) (hb e).1 hbd)
  obtain ⟨r, hr⟩ : ∃ r, mineB c ds = r := ⟨_, rfl⟩
  rw [hr]
  rw [mineB, hf, decide_eq_true hk] at hr
  generalize modOk ⟨ds, [c], 0, 0⟩ = m at *
  have HR := Lib.hid hr
  clear hf hb hr
  cases f with
  | false =>
    clear FT
    obtain ⟨vx, vy, rfl, h1, h2⟩ := h
    obtain ⟨ck, cx, ca, cc⟩ := c
    simp only at *
    obtain ⟨X, xc, rfl⟩ := h1.form
    obtain ⟨Y, yc, rfl⟩ := h2.form
    obtain ⟨D, dc, rfl⟩ := hd.form
    generalize hnx : cx.length = nx at *
    generalize hny : ca.length = ny at *
    generalize hnd : List.length ds = nd at *
    have ka := Lib.hid (since_alloc w (.cells #[.int .i64 ck, .slice X nx xc, .slice Y ny yc, .int .i64 cc] 25))
    have BC := Lib.hid (Bx.fresh w #[.int .i64 ck, .slice X nx xc, .slice Y ny yc, .int .i64 cc] 25)
    obtain ⟨b0, b1, b2, b3⟩ := bx4 BC.out
    clear h1 h2 hd hl hdl hx ha hbd hnx hny hnd
    have c0 : ck ≥ 11 := by unfold Lk at hk; omega
    have c1 : ck ≤ 14 := by unfold Lk at hk; omega
    clear hk
    go_enter Try.func21, Try.ntmps21
    go_wp2_with (go_at_call 16; (with_reducible refine (FI.out _ ka.out).mono ?_); rintro e w1 ⟨rfl, k1⟩; have K1 := Lib.hid (ka.out.trans k1); obtain ⟨b0, b1, b2, b3⟩ := bx4 (BC.out.since k1); clear k1)
    go_ret
    exact .of (by rw [← HR.out]; simp) K1.out
  | true =>
    have FT2 := Lib.hid (fun W (k : Since w W) => FT.out rfl W k)
    clear FT
    obtain ⟨vx, vy, rfl, h1, h2⟩ := h
    obtain ⟨ck, cx, ca, cc⟩ := c
    simp only at *
    obtain ⟨X, xc, rfl⟩ := h1.form
    obtain ⟨Y, yc, rfl⟩ := h2.form
    obtain ⟨D, dc, rfl⟩ := hd.form
    generalize hnx : cx.length = nx at *
    generalize hny : ca.length = ny at *
    generalize hnd : List.length ds = nd at *
    have ka := Lib.hid (since_alloc w (.cells #[.int .i64 ck, .slice X nx xc, .slice Y ny yc, .int .i64 cc] 25))
    have BC := Lib.hid (Bx.fresh w #[.int .i64 ck, .slice X nx xc, .slice Y ny yc, .int .i64 cc] 25)
    obtain ⟨b0, b1, b2, b3⟩ := bx4 BC.out
    clear h1 h2 hd hl hdl hx ha hbd hnx hny hnd
    have c0 : ck ≥ 11 := by unfold Lk at hk; omega
    have c1 : ck ≤ 14 := by unfold Lk at hk; omega
    clear hk
    go_enter Try.func21, Try.ntmps21
    go_wp2_with (first | (go_at_call 16; (with_reducible refine (FI.out _ ka.out).mono ?_); rintro e w1 ⟨rfl, k1⟩; have K1 := Lib.hid (ka.out.trans k1); obtain ⟨b0, b1, b2, b3⟩ := bx4 (BC.out.since k1); clear k1) | (go_at_call 28; go_loud ((with_reducible refine (FT2.out _ K1.out).mono ?_); rintro e w2 ⟨rfl, k2, -⟩; have K2 := Lib.hid (K1.out.trans k2); clear k2)))
    go_ret
    exact .of (by rw [← HR.out]; simp) K2.out
theorem mine_parts {c : Cn} {ds : Ln.Ds} (h : mineB c ds = true) : Lk c.k ∧ SzM ⟨ds, [c], 0, 0⟩ ∧ ds.length ≤ 100 ∧ modOk ⟨ds, [c], 0, 0⟩ = true := by
  simp only [mineB, Bool.and_eq_true, decide_eq_true_eq] at h
  obtain ⟨⟨h1, h2⟩, h3⟩ := h
  exact ⟨h1, (fits12_sz h2).1, (fits12_sz h2).2, h3⟩
def aD : Ln.Ds := [[(0, 0)], [(0, 1)]]
def aC : Cn := ⟨11, [0, 1], [1, -1], 0⟩
def aC2 : Cn := ⟨18, [], [], 0⟩
theorem aN1 : logO aC aD = (some [[(0, 0)], [(0, 0)]], 0) := by decide +kernel
theorem aN2 : logO aC2 aD = (none, 10) := by decide +kernel
theorem szA {c : Cn} (h : c = aC ∨ c = aC2) : SzM ⟨aD, [c], 0, 0⟩ := by
  refine ⟨fun d hd => ?_, fun c' hc => ?_⟩
  · simp [aD] at hd; rcases hd with rfl | rfl <;> simp
  · simp at hc; subst hc; rcases h with rfl | rfl <;> simp [aC, aC2, SzC]
theorem sl_dom2 {W : World} {g : Nat} {u1 u2 : Value} {t : TypeId} {a b : List Rn} (h : Bx W g #[u1, u2] t) (h1 : Sl 2 QR W u1 a) (h2 : Sl 2 QR W u2 b) : Sl 1 QD W (.slice (some ⟨g, 0, none⟩) 2 2) [a, b] := by
  refine ⟨some ⟨g, 0, none⟩, 2, rfl, Nat.le_refl _, fun _ => ⟨g, 0, rfl, fun i d hd => ?_⟩⟩
  match i, hd with
  | 0, hd => cases hd; exact ⟨[u1], ⟨_, rfl, h1⟩, rfl, fun j y hy => by match j, hy with | 0, hy => cases hy; exact h.cell 0 | j + 1, hy => simp at hy⟩
  | 1, hd => cases hd; exact ⟨[u2], ⟨_, rfl, h2⟩, rfl, fun j y hy => by match j, hy with | 0, hy => cases hy; exact h.cell 1 | j + 1, hy => simp at hy⟩
  | i + 2, hd => simp at hd
set_option maxRecDepth 20000 in
set_option maxHeartbeats 4000000 in
theorem alive15_any (w : World) : Calls Try.prog 15 #[] w (Zs.RetT true w) := by
  obtain ⟨w6, hw6⟩ : ∃ w6, w6 = (((((w.alloc (.cells #[.int .i64 0, .int .i64 0] 46)).alloc (.cells #[.int .i64 0, .int .i64 1] 46)).alloc (.cells #[.slice (some ⟨w.heap.size, 0, none⟩) 1 1, .slice (some ⟨w.heap.size + 1, 0, none⟩) 1 1] 43)).alloc (.cells #[.int .i64 0, .int .i64 1] 3)).alloc (.cells #[.int .i64 1, .int .i64 (-1)] 2)) := ⟨_, rfl⟩
  have S6 := Lib.hid (show Since w w6 by rw [hw6]; exact ((((((Since.refl _).alloc _).alloc _).alloc _).alloc _).alloc _))
  have R1 := Lib.hid (show Sl 2 QR w6 (.slice (some ⟨w.heap.size, 0, none⟩) 1 1) [(0, 0)] by rw [hw6]; exact sl_dom1 (Bx.new (W := w) (((((Since.refl _).alloc _).alloc _).alloc _).alloc _) rfl))
  have R2 := Lib.hid (show Sl 2 QR w6 (.slice (some ⟨w.heap.size + 1, 0, none⟩) 1 1) [(0, 1)] by rw [hw6]; exact sl_dom1 (Bx.new (W := (w.alloc (.cells #[.int .i64 0, .int .i64 0] 46))) ((((Since.refl _).alloc _).alloc _).alloc _) (by simp)))
  have DD := Lib.hid (show Sl 1 QD w6 (.slice (some ⟨w.heap.size + 1 + 1, 0, none⟩) 2 2) aD from sl_dom2 (t := 43) (show Bx w6 (w.heap.size + 1 + 1) #[.slice (some ⟨w.heap.size, 0, none⟩) 1 1, .slice (some ⟨w.heap.size + 1, 0, none⟩) 1 1] 43 by rw [hw6]; exact Bx.new (W := ((w.alloc (.cells #[.int .i64 0, .int .i64 0] 46)).alloc (.cells #[.int .i64 0, .int .i64 1] 46))) (((Since.refl _).alloc _).alloc _) (by simp)) R1.out R2.out)
  have I1 := Lib.hid (show Sl 1 QI w6 (.slice (some ⟨w.heap.size + 1 + 1 + 1, 0, none⟩) 2 2) [0, 1] by rw [hw6]; exact sl_ints (Bx.new (W := (((w.alloc (.cells #[.int .i64 0, .int .i64 0] 46)).alloc (.cells #[.int .i64 0, .int .i64 1] 46)).alloc (.cells #[.slice (some ⟨w.heap.size, 0, none⟩) 1 1, .slice (some ⟨w.heap.size + 1, 0, none⟩) 1 1] 43))) (cs := #[.int .i64 0, .int .i64 1]) (t := 3) ((Since.refl _).alloc _) (by simp)) rfl rfl)
  have I2 := Lib.hid (show Sl 1 QI w6 (.slice (some ⟨w.heap.size + 1 + 1 + 1 + 1, 0, none⟩) 2 2) [1, -1] by rw [hw6]; exact sl_ints (Bx.new (W := ((((w.alloc (.cells #[.int .i64 0, .int .i64 0] 46)).alloc (.cells #[.int .i64 0, .int .i64 1] 46)).alloc (.cells #[.slice (some ⟨w.heap.size, 0, none⟩) 1 1, .slice (some ⟨w.heap.size + 1, 0, none⟩) 1 1] 43)).alloc (.cells #[.int .i64 0, .int .i64 1] 3))) (cs := #[.int .i64 1, .int .i64 (-1)]) (t := 2) (Since.refl _) (by simp)) rfl rfl)
  have C6 := Lib.hid (show ConAt w6 (.agg #[.int .i64 11, .slice (some ⟨w.heap.size + 1 + 1 + 1, 0, none⟩) 2 2, .slice (some ⟨w.heap.size + 1 + 1 + 1 + 1, 0, none⟩) 2 2, .int .i64 0]) aC from ⟨_, _, rfl, I1.out, I2.out⟩)
  go_enter Try.func15, Try.ntmps15
  go_wp2_with fail
  rw [← hw6]
  clear hw6 R1 R2
  have NA := logic_any _ _ aC aD w6 C6.out DD.out (szA (.inl rfl))
  rw [aN1] at NA
  (with_reducible refine NA.mono ?_)
  rintro e w7 ⟨k7, g, n, rfl, hg1, hg2, hD⟩
  have hn := hD.len
  simp only [List.length_cons, List.length_nil] at hn
  subst hn
  have K7 := Lib.hid k7
  have HD := Lib.hid hD
  clear NA k7 hg1 hg2 hD
  go_wp2_with fail
  have NB := logic_any (.agg #[.int .i64 18, .slice none 0 0, .slice none 0 0, .int .i64 0]) _ aC2 aD w7 ⟨_, _, rfl, Sl.nil _ _ _, Sl.nil _ _ _⟩ (DD.out.since stD K7.out) (szA (.inr rfl))
  rw [aN2] at NB
  (with_reducible refine NB.mono ?_)
  rintro e w9 ⟨k9, rfl⟩
  have K9 := Lib.hid k9
  clear NB k9
  obtain ⟨A, c, d0, hS⟩ := (HD.out.since K9.out).get (i := 1) (by simp)
  simp only [List.getElem_cons_zero, List.getElem_cons_succ, List.length_cons, List.length_nil] at d0 hS
  have RR := Lib.hid (fun W (k : Since w9 W) B (h2 : Sl 2 QR W (.slice B 1 1) [(0, 0)]) => show Calls Try.prog 27 #[.slice A 1 c, .slice B 1 1] W (Zs.RetT true W) from ranges_same (hS.since stR k) h2 (by simp))
  go_wp2_with fail
  have R9 := RR.out _ (since_alloc _ _) _ (sl_dom1 (Bx.fresh w9 #[.int .i64 0, .int .i64 0] 46))
  (with_reducible refine R9.mono ?_)
  rintro e wa ⟨rfl, ka⟩
  have KA := Lib.hid ((since_alloc _ _).trans ka)
  clear ka R9
  go_wp2
  go_ret
  exact ⟨rfl, S6.out.trans (K7.out.trans (K9.out.trans KA.out))⟩
end Go.Proofs.Ytilgmkhcpmegjaa.Lgc
