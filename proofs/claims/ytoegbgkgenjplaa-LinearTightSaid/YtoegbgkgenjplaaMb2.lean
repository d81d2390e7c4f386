/- Layer 12 (linear): the document's own Lo, Hi, Fixed, Empty, With, Opposite. -/
import Derived.Test.YtoegbgkgenjplaaLa
import Derived.Test.YtoegbgkgenjplaaQat
import Derived.Test.YtoegbgkgenjplaaKd
namespace Go.Proofs.Ytoegbgkgenjplaa.Ln
open Go.RowKit
set_option linter.unusedVariables false
set_option linter.unusedSimpArgs false
open Go.Proofs.Ytoegbgkgenjplaa.Dig Go.Proofs.Ytoegbgkgenjplaa.Lx Go.Proofs.Ytoegbgkgenjplaa.Tk Go.Proofs.Ytoegbgkgenjplaa.Ti Go.Proofs.Ytoegbgkgenjplaa.Zs Go.Proofs.Ytoegbgkgenjplaa.Tr Go.Proofs.Ytoegbgkgenjplaa.Sn
section
open Go.RowKit
set_option linter.unusedVariables false
set_option linter.unusedSimpArgs false
open Go.Proofs.Ytoegbgkgenjplaa.Dig Go.Proofs.Ytoegbgkgenjplaa.Lx Go.Proofs.Ytoegbgkgenjplaa.Tk Go.Proofs.Ytoegbgkgenjplaa.Ti Go.Proofs.Ytoegbgkgenjplaa.Zs Go.Proofs.Ytoegbgkgenjplaa.Tr Go.Proofs.Ytoegbgkgenjplaa.Sn
/-- what a sum is asked with: numbers, variables, domains -/
structure LinIn (w : World) (va vx vd : Value) (a x : List Int) (D : Ds) : Prop where
  pA : Sl 1 QI w va a
  pX : Sl 1 QI w vx x
  pD : Sl 1 QD w vd D
  pG : Gd D
  px : x.all (isV D.length) = true
  pl : a.length ≤ x.length
  pa : a.length ≤ 1000
  pw : a.all within = true
theorem LinIn.since {w w' : World} {va vx vd : Value} {a x : List Int} {D : Ds} (h : LinIn w va vx vd a x D) (k : Since w w') : LinIn w' va vx vd a x D := ⟨h.pA.since stI k, h.pX.since stI k, h.pD.since stD k, h.pG, h.px, h.pl, h.pa, h.pw⟩
end
section
open Go.RowKit
set_option linter.unusedVariables false
set_option linter.unusedSimpArgs false
open Go.Proofs.Ytoegbgkgenjplaa.Dig Go.Proofs.Ytoegbgkgenjplaa.Lx Go.Proofs.Ytoegbgkgenjplaa.Tk Go.Proofs.Ytoegbgkgenjplaa.Ti Go.Proofs.Ytoegbgkgenjplaa.Zs Go.Proofs.Ytoegbgkgenjplaa.Tr Go.Proofs.Ytoegbgkgenjplaa.Sn
set_option maxRecDepth 20000 in
set_option maxHeartbeats 2000000 in
theorem rfit_any (v vd : Value) (c : Cn) (ds : List (List Rn)) (w : World) (h : ConAt w v c) (hd : Sl 1 QD w vd ds) (hs : SzM ⟨ds, [c], 0, 0⟩) (hbd : ∀ d ∈ ds, Bd d) :
    Calls Try.prog 26 #[v, vd] w (fun e w' => e = .returned (.bool (modOk ⟨ds, [c], 0, 0⟩)) ∧ Since w w' ∧ True) := by
  have MR := Lib.hid (fun W v (k : Since w W) (h : ModAt W v ⟨ds, [c], 0, 0⟩) => rmright_any v ⟨ds, [c], 0, 0⟩ W h hs hbd)
  obtain ⟨R, hR⟩ : ∃ R, R = modOk ⟨ds, [c], 0, 0⟩ := ⟨_, rfl⟩
  rw [← hR] at MR ⊢
  obtain ⟨vx, vy, rfl, h1, h2⟩ := h
  obtain ⟨ck, cx, ca, cc⟩ := c
  simp only at *
  obtain ⟨X, xc, rfl⟩ := h1.form
  obtain ⟨Y, yc, rfl⟩ := h2.form
  obtain ⟨D, dc, rfl⟩ := hd.form
  generalize hnx : cx.length = nx at *
  generalize hny : ca.length = ny at *
  generalize hnd : ds.length = nd at *
  have ka := since_alloc w (.cells #[.int .i64 ck, .slice X nx xc, .slice Y ny yc, .int .i64 cc] 25)
  have kb := since_alloc (w.alloc (.cells #[.int .i64 ck, .slice X nx xc, .slice Y ny yc, .int .i64 cc] 25)) (.cells #[.int .i64 ck, .slice X nx xc, .slice Y ny yc, .int .i64 cc] 25)
  have CL := con_lit (w.alloc (.cells #[.int .i64 ck, .slice X nx xc, .slice Y ny yc, .int .i64 cc] 25)) ⟨ck, cx, ca, cc⟩ (.slice X nx xc) (.slice Y ny yc) (h1.since stI ka) (h2.since stI ka)
  rw [show (w.alloc (.cells #[.int .i64 ck, .slice X nx xc, .slice Y ny yc, .int .i64 cc] 25)).heap.size = w.heap.size + 1 by simp] at CL
  simp only at CL
  have M := Lib.hid (MR.out ((w.alloc (.cells #[.int .i64 ck, .slice X nx xc, .slice Y ny yc, .int .i64 cc] 25)).alloc (.cells #[.int .i64 ck, .slice X nx xc, .slice Y ny yc, .int .i64 cc] 25)) (.agg #[.slice D nd dc, .slice (some ⟨w.heap.size + 1, 0, none⟩) 1 1, .int .i64 0, .int .i64 0]) (ka.trans kb) ⟨_, _, rfl, hd.since stD (ka.trans kb), CL⟩)
  have K := Lib.hid (ka.trans kb)
  obtain ⟨b0, b1, b2, b3⟩ := bx4 (Bx.fresh w #[.int .i64 ck, .slice X nx xc, .slice Y ny yc, .int .i64 cc] 25)
  clear MR hR h1 h2 hd hs CL ka kb hnx hny hnd hbd
  go_enter Try.func26, Try.ntmps26
  go_wp2_with (go_at_call 54; (with_reducible refine M.out.mono ?_); rintro e w2 ⟨rfl, k2⟩; have K2 := Lib.hid (K.out.trans k2); clear k2)
  go_ret
  exact ⟨rfl, K2.out, trivial⟩
end
end Go.Proofs.Ytoegbgkgenjplaa.Ln
