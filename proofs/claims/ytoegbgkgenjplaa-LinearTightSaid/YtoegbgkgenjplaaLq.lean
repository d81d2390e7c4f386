/- Layer 12 (linear): the law's Fits; what is left of good domains is good. -/
import Derived.Test.YtoegbgkgenjplaaLa
import Derived.Test.YtoegbgkgenjplaaUwm
namespace Go.Proofs.Ytoegbgkgenjplaa.Ln
open Go.RowKit
set_option linter.unusedVariables false
set_option linter.unusedSimpArgs false
open Go.Proofs.Ytoegbgkgenjplaa.Dig Go.Proofs.Ytoegbgkgenjplaa.Lx Go.Proofs.Ytoegbgkgenjplaa.Tk Go.Proofs.Ytoegbgkgenjplaa.Ti Go.Proofs.Ytoegbgkgenjplaa.Zs Go.Proofs.Ytoegbgkgenjplaa.Tr Go.Proofs.Ytoegbgkgenjplaa.Sn
theorem without_ne2 {d : List Rn} (h : right d = true) (hd : d ≠ []) (hne : lo d ≠ hi d) (v : Int) : without d v ≠ [] := fun e => by
  have h1 := (without_ok d v h).2
  rw [e] at h1
  by_cases c : lo d = v
  · exact (h1 (hi d)).2 ⟨hi_mem d h hd, fun e => hne (c.trans e.symm)⟩
  · exact (h1 (lo d)).2 ⟨lo_mem h hd, c⟩
/-- what a sum that may not be a number leaves, in one sentence -/
theorem neW_good {r : Int} {a x : List Int} {D E : Ds} (h : Gd D) (hx : x.all (isV D.length) = true) (he : neW r ((tms a x D).filter opn) D = some E) : Gd E ∧ Sub E D := by
  obtain ⟨hV, hI⟩ := tms_in (a := a) h.rd hx
  generalize hO : (tms a x D).filter opn = O at *
  match O, hO with
  | [], hO =>
    unfold neW at he
    simp only at he
    split at he
    · cases he
    · cases he; exact ⟨h, .refl _⟩
  | t1 :: t2 :: l, hO => cases he; exact ⟨h, .refl _⟩
  | [t], hO =>
    have hm := List.mem_filter.1 (show t ∈ (tms a x D).filter opn by rw [hO]; simp)
    have hv := hV t hm.1
    unfold neW at he
    simp only at he
    split at he
    · cases he
      have hg := h.at_ hv.2
      have hlo : lo (domAt D t.x) ≠ hi (domAt D t.x) := by
        obtain ⟨p, hp, rfl⟩ := List.mem_map.1 hm.1
        intro e
        rw [opn_no (.inr e)] at hm
        cases hm.2
      refine ⟨fun d hd => ?_, by simp, fun y hy v hv2 => ?_⟩
      · rcases List.mem_or_eq_of_mem_set hd with h1 | rfl
        · exact h d h1
        · exact ⟨without_right _ _, without_ne2 hg.1 hg.2 hlo _⟩
      · rw [domAt_set hv.2] at hv2
        split at hv2
        · rename_i e
          rw [show y = t.x by omega]
          exact ((without_ok _ _ hg.1).2 v |>.1 hv2).1
        · exact hv2
    · cases he; exact ⟨h, .refl _⟩
theorem nar_good {k c : Int} {a x : List Int} {D E : Ds} (h : Gd D) (hx : x.all (isV D.length) = true) (he : narL k c a x D = some E) : Gd E ∧ Sub E D := by
  obtain ⟨h1, h2⟩ := tms_in (a := a) h.rd hx
  unfold narL at he
  split at he
  · cases e : amL c (tms a x D) D with
    | none => rw [e] at he; cases he
    | some F =>
      rw [e] at he
      obtain ⟨q0, q1, q2, q3⟩ := amL_some h h1 h2 e
      obtain ⟨h3, h4⟩ := tms_in (a := neg a) q1.rd (isV_len q2.1.symm hx)
      obtain ⟨r0, r1, r2, r3⟩ := amL_some q1 h3 h4 he
      exact ⟨r1, r2.trans q2⟩
  · split at he
    · obtain ⟨q0, q1, q2, q3⟩ := amL_some h h1 h2 he
      exact ⟨q1, q2⟩
    · exact neW_good h hx he
def fits12 (c : Cn) (ds : Ds) : Bool := smallM ⟨ds, [c], 0, 0⟩ && decide (ds.length ≤ 100)
theorem fits12_sz {c : Cn} {ds : Ds} (h : fits12 c ds = true) : SzM ⟨ds, [c], 0, 0⟩ ∧ ds.length ≤ 100 := by
  simp only [fits12, Bool.and_eq_true, decide_eq_true_eq] at h
  exact ⟨smallM_sz h.1, h.2⟩
set_option maxRecDepth 20000 in
set_option maxHeartbeats 2000000 in
theorem fits12_any (v vd : Value) (c : Cn) (ds : List (List Rn)) (w : World) (h : ConAt w v c) (hd : Sl 1 QD w vd ds) (hl : ds.length ≤ maxLen) (hdl : ∀ d ∈ ds, d.length ≤ maxLen) (hx : c.x.length ≤ maxLen) (ha : c.a.length ≤ maxLen) :
    Calls Try.prog 24 #[v, vd] w (RetT (fits12 c ds) w) := by
  unfold maxLen at hl hdl hx ha
  have MR := Lib.hid (fun W v (k : Since w W) (h : ModAt W v ⟨ds, [c], 0, 0⟩) => small_any v ⟨ds, [c], 0, 0⟩ W h (by simp only; omega) (by simp) (fun d hd => by have := hdl d hd; omega) (fun c' hc => by simp only [List.mem_singleton] at hc; subst hc; omega))
  obtain ⟨R, hR⟩ : ∃ R, R = smallM ⟨ds, [c], 0, 0⟩ := ⟨_, rfl⟩
  rw [← hR] at MR
  have HF := Lib.hid (show (R && decide (ds.length ≤ 100)) = fits12 c ds by rw [hR]; rfl)
  rw [← HF.out]
  clear HF
  obtain ⟨vx, vy, rfl, h1, h2⟩ := h
  obtain ⟨ck, cx, ca, cc⟩ := c
  simp only at *
  obtain ⟨X, xc, rfl⟩ := h1.form
  obtain ⟨Y, yc, rfl⟩ := h2.form
  obtain ⟨D, dc, rfl⟩ := hd.form
  generalize hnx : cx.length = nx at *
  generalize hny : ca.length = ny at *
  generalize hnd : ds.length = nd at *
  have ka := since_alloc w (.cells #[.int .i64 ck, .slice X nx xc, .slice Y ny yc, .int .i64 cc] 25)
  have kb := since_alloc (w.alloc (.cells #[.int .i64 ck, .slice X nx xc, .slice Y ny yc, .int .i64 cc] 25)) (.cells #[.int .i64 ck, .slice X nx xc, .slice Y ny yc, .int .i64 cc] 25)
  have CL := con_lit (w.alloc (.cells #[.int .i64 ck, .slice X nx xc, .slice Y ny yc, .int .i64 cc] 25)) ⟨ck, cx, ca, cc⟩ (.slice X nx xc) (.slice Y ny yc) (h1.since stI ka) (h2.since stI ka)
  rw [show (w.alloc (.cells #[.int .i64 ck, .slice X nx xc, .slice Y ny yc, .int .i64 cc] 25)).heap.size = w.heap.size + 1 by simp] at CL
  simp only at CL
  have M := Lib.hid (MR.out ((w.alloc (.cells #[.int .i64 ck, .slice X nx xc, .slice Y ny yc, .int .i64 cc] 25)).alloc (.cells #[.int .i64 ck, .slice X nx xc, .slice Y ny yc, .int .i64 cc] 25)) (.agg #[.slice D nd dc, .slice (some ⟨w.heap.size + 1, 0, none⟩) 1 1, .int .i64 0, .int .i64 0]) (ka.trans kb) ⟨_, _, rfl, hd.since stD (ka.trans kb), CL⟩)
  have K := Lib.hid (ka.trans kb)
  obtain ⟨b0, b1, b2, b3⟩ := bx4 (Bx.fresh w #[.int .i64 ck, .slice X nx xc, .slice Y ny yc, .int .i64 cc] 25)
  clear MR hR h1 h2 hd CL ka kb hnx hny hnd hdl hx ha
  cases R with
  | false =>
    go_enter Try.func24, Try.ntmps24
    go_wp2_with (go_at_call 18; (with_reducible refine M.out.mono ?_); rintro e w2 ⟨rfl, k2⟩; have K2 := Lib.hid (K.out.trans k2); clear k2)
    go_ret
    exact .of (by simp) K2.out
  | true =>
    go_enter Try.func24, Try.ntmps24
    go_wp2_with (go_at_call 18; (with_reducible refine M.out.mono ?_); rintro e w2 ⟨rfl, k2⟩; have K2 := Lib.hid (K.out.trans k2); clear k2)
    go_ret
    exact .of (by simp; omega) K2.out
end Go.Proofs.Ytoegbgkgenjplaa.Ln
