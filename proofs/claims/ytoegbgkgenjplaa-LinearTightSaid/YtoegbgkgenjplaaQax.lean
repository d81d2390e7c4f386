/- Layer 11 (sense), pure: a list moved place by place. Layer 11 (sense), pure: what the document says of constra -/
import Derived.Test.YtoegbgkgenjplaaKf
import Derived.Test.YtoegbgkgenjplaaUwm
set_option linter.unusedVariables false
set_option linter.unusedSimpArgs false
section
namespace Go.Proofs.Ytoegbgkgenjplaa.Sn
open Go.RowKit
open Go.Proofs.Ytoegbgkgenjplaa.Dig Go.Proofs.Ytoegbgkgenjplaa.Lx Go.Proofs.Ytoegbgkgenjplaa.Tk Go.Proofs.Ytoegbgkgenjplaa.Ti Go.Proofs.Ytoegbgkgenjplaa.Zs Go.Proofs.Ytoegbgkgenjplaa.Tr
section
open Go.Proofs.Ytoegbgkgenjplaa.Zs
section
open Go.RowKit
open Go.Proofs.Ytoegbgkgenjplaa.Dig Go.Proofs.Ytoegbgkgenjplaa.Lx Go.Proofs.Ytoegbgkgenjplaa.Tk Go.Proofs.Ytoegbgkgenjplaa.Ti Go.Proofs.Ytoegbgkgenjplaa.Zs Go.Proofs.Ytoegbgkgenjplaa.Tr
def Rz (e : TypeId) (n : Nat) (w : World) (v : Value) (xs : List Int) : Prop := ∃ cs, w.ownsRow n e 1 v xs.length cs ∧ Rws 1 QI0 xs cs
theorem Rz.of {e : TypeId} {w1 w : World} {v : Value} {xs : List Int} (h : Rq e QI0 w1 w v xs) : Rz e w1.heap.size w v xs := by
  obtain ⟨cs, h1, h2, -⟩ := h
  exact ⟨cs, h1, h2⟩
theorem Rz.set {e : TypeId} {n : Nat} {w : World} {v : Value} {xs : List Int} (h : Rz e n w v xs) {a : Addr} (ha : a.block < n) (u : Value) : Rz e n (w.setCell a u) v xs := by
  obtain ⟨cs, h1, h2⟩ := h
  exact ⟨cs, ownsRow_setCell_below h1 ha u, h2⟩
theorem Rz.since {e : TypeId} {n : Nat} {w w' : World} {v : Value} {xs : List Int} (h : Rz e n w v xs) (k : Since w w') : Rz e n w' v xs := by
  obtain ⟨cs, h1, h2⟩ := h
  exact ⟨cs, owns_since h1 k, h2⟩
theorem Rz.sl {e : TypeId} {n : Nat} {w : World} {v : Value} {xs : List Int} (h : Rz e n w v xs) : Sl 1 QI w v xs := by
  obtain ⟨cs, h1, h2⟩ := h
  have : Sl 1 (fun _ => QI0) w v xs := Sl.own h1 h2 rfl
  exact this
def Rb (w0 w : World) (v : Value) (xs : List Int) : Prop := ∃ b1, Since w0 b1 ∧ Rq 2 QI0 b1 w v xs
theorem Rb.since {w0 w w' : World} {v : Value} {xs : List Int} (h : Rb w0 w v xs) (k : Since w w') : Rb w0 w' v xs := by
  obtain ⟨b1, h1, h2⟩ := h
  exact ⟨b1, h1, h2.since k⟩
end
end
end Go.Proofs.Ytoegbgkgenjplaa.Sn
end
section
namespace Go.Proofs.Ytoegbgkgenjplaa.Sn
open Go.Proofs.Ytoegbgkgenjplaa.Zs
theorem bit_iff (x : Int) : bit x = true ↔ x = 0 ∨ x = 1 := by simp only [bit, Bool.and_eq_true, decide_eq_true_eq]; omega
end Go.Proofs.Ytoegbgkgenjplaa.Sn
end
section
namespace Go.Proofs.Ytoegbgkgenjplaa.Sn
open Go.RowKit
open Go.Proofs.Ytoegbgkgenjplaa.Dig Go.Proofs.Ytoegbgkgenjplaa.Lx Go.Proofs.Ytoegbgkgenjplaa.Tk Go.Proofs.Ytoegbgkgenjplaa.Ti Go.Proofs.Ytoegbgkgenjplaa.Zs Go.Proofs.Ytoegbgkgenjplaa.Tr
theorem vals_snoc2 {x a : List Int} {j : Nat} (h : j < x.length) : vals (x.take j) a ++ [valAt a x[j]] = vals (x.take (j + 1)) a := by
  rw [List.take_succ_eq_append_getElem h, vals, vals, List.map_append]; rfl
set_option maxRecDepth 20000 in
set_option maxHeartbeats 3000000 in
theorem rvalues_any (v va : Value) (c : Cn) (a : List Int) (w : World) (h : ConAt w v c) (ha : Sl 1 QI w va a) (hx : c.x.length ≤ 100000) (hin : inR c.x a = true) :
    Calls Try.prog 45 #[v, va] w (fun e w' => ∃ B bc, e = .returned (.slice B c.x.length bc) ∧ Rq 2 QI0 w w' (.slice B c.x.length bc) (vals c.x a)) := by
  obtain ⟨vx, vy, rfl, h1, h2⟩ := h
  obtain ⟨ck, cx, ca, cc⟩ := c
  simp only at h1 h2 hx hin ⊢
  obtain ⟨X, xc, rfl⟩ := h1.form
  obtain ⟨Y, yc, rfl⟩ := h2.form
  obtain ⟨A, ac, rfl⟩ := ha.form
  obtain ⟨nx, hnx⟩ : ∃ n, n = cx.length := ⟨_, rfl⟩
  obtain ⟨na, hna⟩ : ∃ n, n = ca.length := ⟨_, rfl⟩
  obtain ⟨nl, hnl⟩ : ∃ n, n = a.length := ⟨_, rfl⟩
  rw [← hnx] at h1 hx ⊢
  rw [← hna] at h2 ⊢
  rw [← hnl] at ha ⊢
  have H1 := Lib.hid h1
  have H3 := Lib.hid ha
  have HNX := Lib.hid hnx
  have HNL := Lib.hid hnl
  have HIN := Lib.hid hin
  obtain ⟨w0, hw0⟩ : ∃ w0, w0 = w.alloc (.cells #[.int .i64 ck, .slice X nx xc, .slice Y na yc, .int .i64 cc] 25) := ⟨_, rfl⟩
  have ka := Lib.hid (show Since w w0 by rw [hw0]; exact since_alloc w _)
  have BC := Lib.hid (show Bx w0 w.heap.size #[.int .i64 ck, .slice X nx xc, .slice Y na yc, .int .i64 cc] 25 by rw [hw0]; exact Bx.fresh w _ _)
  have HW0 := Lib.hid hw0
  clear h1 h2 ha hnx hna hnl hin hw0
  go_enter Try.func45, Try.ntmps45
  go_wp2
  rw [← HW0.out]
  clear HW0
  go_loopw [5, 6] (fun s i wr => ∃ (j : Nat) (B : Option Addr) (bc : Nat), i = .int .i64 (j : Int) ∧ s = .slice B j bc ∧ j ≤ nx ∧ Hid (Rq 2 QI0 w0 wr (.slice B j bc) (vals (cx.take j) a))) (fun _ i _ => nx - (intOf i).toNat)
  case atStart => exact ⟨0, none, 0, rfl, rfl, Nat.zero_le _, Rq.nil _ _ (Since.refl _)⟩
  case round =>
    obtain ⟨j, B, bc, rfl, rfl, hj, HQ⟩ := hrel
    obtain ⟨b0, b1, b2, b3⟩ := bx4 (BC.out.since HQ.out.s)
    by_cases hjn : j < nx
    · have hjx : j < cx.length := by have := HNX.out; omega
      obtain ⟨g, o, rfl, e0⟩ := elI (H1.out.since stI (ka.out.trans HQ.out.s)) hjx
      have hin := List.all_eq_true.1 HIN.out _ (List.getElem_mem hjx)
      have hs := vals_snoc2 (a := a) hjx
      generalize cx[j] = y at *
      obtain ⟨q, rfl, hq⟩ := isV_nat hin
      obtain ⟨g2, o2, rfl, e2⟩ := elI (H3.out.since stI (ka.out.trans HQ.out.s)) hq
      have hva : valAt a (q : Int) = a[q] := by simp [valAt, hq]
      rw [hva] at hs
      have hqn : q < nl := by have := HNL.out; omega
      generalize a[q] = z at *
      have HS := Lib.hid hs
      have HLJ := Lib.hid (show (vals (cx.take j) a).length = j by rw [vals_len, List.length_take]; omega)
      have HLX := Lib.hid (show (vals (cx.take j) a).length ≤ 1000000 by rw [HLJ.out]; omega)
      clear hs hva hin hjx
      go_wp2_with (at_builtin; refine wpList_appQ nL (HQ.out.since (since_alloc _ _)) HLX.out z (.int .i64 z) rfl rfl wr.heap.size 1 ((Bx.fresh wr _ _).cell 0) (by rfl) _ _ rfl rfl rfl ?_; rw [HLJ.out]; intro A2 c2 w6 h2 q2; have H2 := Lib.hid h2; clear h2 q2)
      go_roundw
      case rel => exact ⟨j + 1, A2, c2, by go_num, by first | rfl | go_num, by omega, by rw [HS.out] at H2; exact H2⟩
      case measure => simp [intOf]; omega
    · obtain rfl : nx = j := by omega
      have HT := Lib.hid (show cx.take nx = cx from List.take_of_length_le (by have := HNX.out; omega))
      go_wp2
      go_ret
      exact ⟨_, _, rfl, by have := HQ.out; rw [HT.out] at this; obtain ⟨cs, h1, h2, h3⟩ := this; exact ⟨cs, ⟨h1.1, h1.2.imp id fun ⟨g, cap, cur, e1, e2, e3⟩ => ⟨g, cap, cur, e1, Nat.le_trans ka.out.size e2, e3⟩⟩, h2, ka.out.trans h3⟩⟩
end Go.Proofs.Ytoegbgkgenjplaa.Sn
end
