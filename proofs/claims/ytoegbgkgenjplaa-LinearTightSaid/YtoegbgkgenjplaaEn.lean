/- Layer 9 (set): the document's own Same; law 8's comparison of ranges. -/
import Derived.Test.YtoegbgkgenjplaaE0
import Derived.Test.YtoegbgkgenjplaaEj
namespace Go.Proofs.Ytoegbgkgenjplaa.Zs
open Go.RowKit
set_option linter.unusedVariables false
set_option linter.unusedSimpArgs false
open Go.Proofs.Ytoegbgkgenjplaa.Dig Go.Proofs.Ytoegbgkgenjplaa.Lx Go.Proofs.Ytoegbgkgenjplaa.Tk Go.Proofs.Ytoegbgkgenjplaa.Ti
set_option maxRecDepth 20000 in
set_option maxHeartbeats 1000000 in
theorem ranges_any (v1 v2 : Value) (xs ys : List Rn) (w : World) (h1 : Sl 2 QR w v1 xs) (h2 : Sl 2 QR w v2 ys) (hl : ys.length ≤ 1100000) :
    Calls Try.prog 38 #[v1, v2] w (RetT (decide (xs = ys)) w) := by
  have H1 := Lib.hid h1
  have H2 := Lib.hid h2
  obtain ⟨A1, c1, rfl⟩ := h1.form
  obtain ⟨A2, c2, rfl⟩ := h2.form
  obtain ⟨n, hnn⟩ : ∃ n, n = xs.length := ⟨_, rfl⟩
  obtain ⟨m, hmm⟩ : ∃ m, m = ys.length := ⟨_, rfl⟩
  rw [← hnn] at H1 ⊢
  rw [← hmm] at H2 hl ⊢
  have HN := Lib.hid hnn
  have HM := Lib.hid hmm
  clear h1 h2 hnn hmm
  by_cases hnm : n = m
  · subst hnm
    go_enter Try.func38, Try.ntmps38
    go_wp2
    go_loopw [13] (fun i wr => ∃ k : Nat, i = .int .i64 (k : Int) ∧ k ≤ n ∧ Hid (∀ j, j < k → xs[j]? = ys[j]?) ∧ Hid (Since w wr)) (fun i _ => n - (intOf i).toNat)
    case atStart => exact ⟨0, rfl, Nat.zero_le _, fun j hj => absurd hj (Nat.not_lt_zero _), Since.refl _⟩
    case round =>
      obtain ⟨k, rfl, hk, HJ, HS⟩ := hrel
      by_cases hkn : k < n
      · have k1 : k < xs.length := by have := HN.out; omega
        have k2 : k < ys.length := by have := HM.out; omega
        obtain ⟨b1, o1, u1, rfl, q1, ul1, cs1⟩ := H1.out.el k1
        obtain ⟨b2, o2, u2, rfl, q2, ul2, cs2⟩ := H2.out.el k2
        have x1 : xs[k]? = some xs[k] := List.getElem?_eq_getElem k1
        have x2 : ys[k]? = some ys[k] := List.getElem?_eq_getElem k2
        obtain ⟨y1, e1⟩ : ∃ y, y = xs[k] := ⟨_, rfl⟩
        obtain ⟨y2, e2⟩ : ∃ y, y = ys[k] := ⟨_, rfl⟩
        rw [← e1] at q1 x1
        rw [← e2] at q2 x2
        obtain ⟨lo1, hi1⟩ := y1
        obtain ⟨lo2, hi2⟩ := y2
        have up : ∀ {p : Addr} {u : Value}, w.cell? p = some u → wr.cell? p = some u := fun g => (HS.out.cell _ (World.block_lt_of_cell? _ _ g)).trans g
        simp only [QR] at q1 q2
        subst q1 q2
        have f0 := up (cs1 0 _ rfl)
        have f1 := up (cs1 1 _ rfl)
        have g0 := up (cs2 0 _ rfl)
        have g1 := up (cs2 1 _ rfl)
        rw [Nat.add_zero] at f0 g0
        have F0 : wr.drew.cell? _ = _ := f0
        have F1 : wr.drew.cell? _ = _ := f1
        have G0 : wr.drew.cell? _ = _ := g0
        have G1 : wr.drew.cell? _ = _ := g1
        have X1 := Lib.hid x1
        have X2 := Lib.hid x2
        clear up e1 e2 ul1 ul2 cs1 cs2 x1 x2
        by_cases hll : lo1 = lo2
        · by_cases hhh : hi1 = hi2
          · subst hll hhh
            go_wp2
            go_region
            all_goals go_wp2
            all_goals go_roundw
            case rel =>
              refine ⟨k + 1, by go_num, by omega, fun j hj => ?_, by first | exact HS.out | exact Since.drew HS.out⟩
              rcases Nat.lt_or_ge j k with h | h
              · exact HJ.out j h
              · obtain rfl : j = k := by omega
                rw [X1.out, X2.out]
            case measure => simp [intOf]; omega
          · have z2 : (hi1 == hi2) = false := by rw [beq_eq_false_iff_ne]; exact hhh
            subst hll
            have NO : ¬ xs = ys := fun e => hhh (by
              have := X1.out.symm.trans ((congrArg (fun l => l[k]?) e).trans X2.out)
              injection this with this; injection this)
            go_wp2
            go_region
            all_goals go_wp2
            all_goals go_ret
            all_goals exact .of ((decide_eq_false NO).symm) (by first | exact HS.out | exact Since.drew HS.out)
        · have z1 : (lo1 == lo2) = false := by rw [beq_eq_false_iff_ne]; exact hll
          have NO : ¬ xs = ys := fun e => hll (by
            have := X1.out.symm.trans ((congrArg (fun l => l[k]?) e).trans X2.out)
            injection this with this; injection this)
          go_wp2
          go_region
          all_goals go_wp2
          all_goals go_ret
          all_goals exact .of ((decide_eq_false NO).symm) (by first | exact HS.out | exact Since.drew HS.out)
      · obtain rfl : k = n := by omega
        have YES := upto' HN.out HM.out HJ.out
        go_wp2
        go_ret
        exact .of ((decide_eq_true YES).symm) HS.out
  · have NO : ¬ xs = ys := fun e => hnm (by rw [HN.out, HM.out, e])
    have z1 : ((n : Int) == (m : Int)) = false := by rw [beq_eq_false_iff_ne]; omega
    go_enter Try.func38, Try.ntmps38
    go_wp2
    go_ret
    exact .of (decide_eq_false NO).symm (Since.refl _)
end Go.Proofs.Ytoegbgkgenjplaa.Zs
