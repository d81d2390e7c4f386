/- Layer 9 (set): the document's own Same; law 8's comparison of ranges. Layer 12 (linear): the landed notEqual. -/
import Derived.Test.YtilgmkhcpmegjaaEj
import Derived.Laws.ResultCell
import Derived.Test.YtilgmkhcpmegjaaQar
set_option linter.unusedVariables false
set_option linter.unusedSimpArgs false
section
namespace Go.Proofs.Ytilgmkhcpmegjaa.Zs
open Go.RowKit
open Go.Proofs.Ytilgmkhcpmegjaa.Dig Go.Proofs.Ytilgmkhcpmegjaa.Lx Go.Proofs.Ytilgmkhcpmegjaa.Tk Go.Proofs.Ytilgmkhcpmegjaa.Ti
set_option maxRecDepth 20000 in
set_option maxHeartbeats 1000000 in
theorem ranges_any (v1 v2 : Value) (xs ys : List Rn) (w : World) (h1 : Sl 2 QR w v1 xs) (h2 : Sl 2 QR w v2 ys) (hl : ys.length ≤ 1100000) :
    Calls Try.prog 27 #[v1, v2] w (RetT (decide (xs = ys)) w) := by
  have H1 := Lib.hid h1
  have H2 := Lib.hid h2
  obtain ⟨A1, c1, rfl⟩ := h1.form
  obtain ⟨A2, c2, rfl⟩ := h2.form
  obtain ⟨n, hnn⟩ : ∃ n, n = xs.length := ⟨_, rfl⟩
  obtain ⟨m, hmm⟩ : ∃ m, m = ys.length := ⟨_, rfl⟩
  rw [← hnn] at H1 ⊢
  rw [← hmm] at H2 hl ⊢
  have HN := Lib.hid hnn
  have HM := Lib.hid hmm
  clear h1 h2 hnn hmm
  by_cases hnm : n = m
  · subst hnm
    go_enter Try.func27, Try.ntmps27
    go_wp2
    go_loopw [13] (fun i wr => ∃ k : Nat, i = .int .i64 (k : Int) ∧ k ≤ n ∧ Hid (∀ j, j < k → xs[j]? = ys[j]?) ∧ Hid (Since w wr)) (fun i _ => n - (intOf i).toNat)
    case atStart => exact ⟨0, rfl, Nat.zero_le _, fun j hj => absurd hj (Nat.not_lt_zero _), Since.refl _⟩
    case round =>
      obtain ⟨k, rfl, hk, HJ, HS⟩ := hrel
      by_cases hkn : k < n
      · have k1 : k < xs.length := by have := HN.out; omega
        have k2 : k < ys.length := by have := HM.out; omega
        obtain ⟨b1, o1, u1, rfl, q1, ul1, cs1⟩ := H1.out.el k1
        obtain ⟨b2, o2, u2, rfl, q2, ul2, cs2⟩ := H2.out.el k2
        have x1 : xs[k]? = some xs[k] := List.getElem?_eq_getElem k1
        have x2 : ys[k]? = some ys[k] := List.getElem?_eq_getElem k2
        obtain ⟨y1, e1⟩ : ∃ y, y = xs[k] := ⟨_, rfl⟩
        obtain ⟨y2, e2⟩ : ∃ y, y = ys[k] := ⟨_, rfl⟩
        rw [← e1] at q1 x1
        rw [← e2] at q2 x2
        obtain ⟨lo1, hi1⟩ := y1
        obtain ⟨lo2, hi2⟩ := y2
        have up : ∀ {p : Addr} {u : Value}, w.cell? p = some u → wr.cell? p = some u := fun g => (HS.out.cell _ (World.block_lt_of_cell? _ _ g)).trans g
        simp only [QR] at q1 q2
        subst q1 q2
        have f0 := up (cs1 0 _ rfl)
        have f1 := up (cs1 1 _ rfl)
        have g0 := up (cs2 0 _ rfl)
        have g1 := up (cs2 1 _ rfl)
        rw [Nat.add_zero] at f0 g0
        have F0 : wr.drew.cell? _ = _ := f0
        have F1 : wr.drew.cell? _ = _ := f1
        have G0 : wr.drew.cell? _ = _ := g0
        have G1 : wr.drew.cell? _ = _ := g1
        have X1 := Lib.hid x1
        have X2 := Lib.hid x2
        clear up e1 e2 ul1 ul2 cs1 cs2 x1 x2
        by_cases hll : lo1 = lo2
        · by_cases hhh : hi1 = hi2
          · subst hll hhh
            go_wp2
            go_region
            all_goals go_wp2
            all_goals go_roundw
            case rel =>
              refine ⟨k + 1, by go_num, by omega, fun j hj => ?_, by first | exact HS.out | exact Since.drew HS.out⟩
              rcases Nat.lt_or_ge j k with h | h
              · exact HJ.out j h
              · obtain rfl : j = k := by omega
                rw [X1.out, X2.out]
            case measure => simp [intOf]; omega
          · have z2 : (hi1 == hi2) = false := by rw [beq_eq_false_iff_ne]; exact hhh
            subst hll
            have NO : ¬ xs = ys := fun e => hhh (by
              have := X1.out.symm.trans ((congrArg (fun l => l[k]?) e).trans X2.out)
              injection this with this; injection this)
            go_wp2
            go_region
            all_goals go_wp2
            all_goals go_ret
            all_goals exact .of ((decide_eq_false NO).symm) (by first | exact HS.out | exact Since.drew HS.out)
        · have z1 : (lo1 == lo2) = false := by rw [beq_eq_false_iff_ne]; exact hll
          have NO : ¬ xs = ys := fun e => hll (by
            have := X1.out.symm.trans ((congrArg (fun l => l[k]?) e).trans X2.out)
            injection this with this; injection this)
          go_wp2
          go_region
          all_goals go_wp2
          all_goals go_ret
          all_goals exact .of ((decide_eq_false NO).symm) (by first | exact HS.out | exact Since.drew HS.out)
      · obtain rfl : k = n := by omega
        have YES := upto' HN.out HM.out HJ.out
        go_wp2
        go_ret
        exact .of ((decide_eq_true YES).symm) HS.out
  · have NO : ¬ xs = ys := fun e => hnm (by rw [HN.out, HM.out, e])
    have z1 : ((n : Int) == (m : Int)) = false := by rw [beq_eq_false_iff_ne]; omega
    go_enter Try.func27, Try.ntmps27
    go_wp2
    go_ret
    exact .of (decide_eq_false NO).symm (Since.refl _)
set_option maxRecDepth 20000 in
set_option maxHeartbeats 1000000 in
theorem rsame_any (v1 v2 : Value) (xs ys : List Rn) (w : World) (h1 : Sl 2 QR w v1 xs) (h2 : Sl 2 QR w v2 ys) (hl1 : xs.length ≤ 1100000) (hl : ys.length ≤ 1100000) (hb1 : Bd xs) (hb2 : Bd ys) :
    Calls Try.prog 75 #[v1, v2] w (RetT (same xs ys) w) := by
  have H1 := Lib.hid h1
  have H2 := Lib.hid h2
  obtain ⟨A1, c1, rfl⟩ := h1.form
  obtain ⟨A2, c2, rfl⟩ := h2.form
  have RA := Lib.hid (fun b (e : right xs = b) => rright_at h1 hl1 hb1 e)
  have RB := Lib.hid (fun b (e : right ys = b) => rright_at h2 hl hb2 e)
  obtain ⟨n, hnn⟩ : ∃ n, n = xs.length := ⟨_, rfl⟩
  obtain ⟨m, hmm⟩ : ∃ m, m = ys.length := ⟨_, rfl⟩
  rw [← hnn] at H1 RA ⊢
  rw [← hmm] at H2 hl RB ⊢
  have HN := Lib.hid hnn
  have HM := Lib.hid hmm
  clear h1 h2 hnn hmm hl1 hb1 hb2
  cases hr1 : right xs with
  | false =>
    have E := Lib.hid (show false = same xs ys by rw [same, hr1]; rfl)
    have RA1 := Lib.hid (RA.out _ hr1)
    clear RA RB hr1
    go_enter Try.func75, Try.ntmps75
    go_wp2_with (go_at_call 73; (with_reducible refine (RA1.out _ (Since.refl _)).mono ?_); rintro e w1 ⟨rfl, k1⟩)
    go_ret
    exact .of E.out k1
  | true =>
    have E := Lib.hid (show same xs ys = decide (xs = ys) by rw [same, hr1]; rfl)
    have RA1 := Lib.hid (RA.out _ hr1)
    cases hr2 : right ys with
    | false =>
      have NO : ¬ xs = ys := fun e => by rw [e, hr2] at hr1; cases hr1
      have RB1 := Lib.hid (RB.out _ hr2)
      clear RA RB hr1 hr2
      go_enter Try.func75, Try.ntmps75
      go_wp2_with (first | (go_at_call 73; (with_reducible refine (RA1.out _ (Since.refl _)).mono ?_); rintro e w1 ⟨rfl, k1⟩) | (go_at_call 73; (with_reducible refine (RB1.out _ k1).mono ?_); rintro e w2 ⟨rfl, k2⟩))
      go_ret
      exact .of ((decide_eq_false NO).symm.trans E.out.symm) (k1.trans k2)
    | true =>
      have RB1 := Lib.hid (RB.out _ hr2)
      clear RA RB hr1 hr2
      by_cases hnm : n = m
      · subst hnm
        go_enter Try.func75, Try.ntmps75
        go_wp2_with (first | (go_at_call 73; (with_reducible refine (RA1.out _ (Since.refl _)).mono ?_); rintro e w1 ⟨rfl, k1⟩) | (go_at_call 73; (with_reducible refine (RB1.out _ k1).mono ?_); rintro e w2 ⟨rfl, k2⟩))
        go_loopw [5] (fun i wr => ∃ k : Nat, i = .int .i64 (k : Int) ∧ k ≤ n ∧ Hid (∀ j, j < k → xs[j]? = ys[j]?) ∧ Hid (Since w wr)) (fun i _ => n - (intOf i).toNat)
        case atStart => exact ⟨0, rfl, Nat.zero_le _, fun j hj => absurd hj (Nat.not_lt_zero _), k1.trans k2⟩
        case round =>
          obtain ⟨k, rfl, hk, HJ, HS⟩ := hrel
          by_cases hkn : k < n
          · have k1 : k < xs.length := by have := HN.out; omega
            have k2 : k < ys.length := by have := HM.out; omega
            obtain ⟨b1, o1, u1, rfl, q1, ul1, cs1⟩ := H1.out.el k1
            obtain ⟨b2, o2, u2, rfl, q2, ul2, cs2⟩ := H2.out.el k2
            have x1 : xs[k]? = some xs[k] := List.getElem?_eq_getElem k1
            have x2 : ys[k]? = some ys[k] := List.getElem?_eq_getElem k2
            obtain ⟨y1, e1⟩ : ∃ y, y = xs[k] := ⟨_, rfl⟩
            obtain ⟨y2, e2⟩ : ∃ y, y = ys[k] := ⟨_, rfl⟩
            rw [← e1] at q1 x1
            rw [← e2] at q2 x2
            obtain ⟨lo1, hi1⟩ := y1
            obtain ⟨lo2, hi2⟩ := y2
            have up : ∀ {p : Addr} {u : Value}, w.cell? p = some u → wr.cell? p = some u := fun g => (HS.out.cell _ (World.block_lt_of_cell? _ _ g)).trans g
            simp only [QR] at q1 q2
            subst q1 q2
            have f0 := up (cs1 0 _ rfl)
            have f1 := up (cs1 1 _ rfl)
            have g0 := up (cs2 0 _ rfl)
            have g1 := up (cs2 1 _ rfl)
            rw [Nat.add_zero] at f0 g0
            have F0 : wr.drew.cell? _ = _ := f0
            have F1 : wr.drew.cell? _ = _ := f1
            have G0 : wr.drew.cell? _ = _ := g0
            have G1 : wr.drew.cell? _ = _ := g1
            have X1 := Lib.hid x1
            have X2 := Lib.hid x2
            clear up e1 e2 ul1 ul2 cs1 cs2 x1 x2
            by_cases hll : lo1 = lo2
            · by_cases hhh : hi1 = hi2
              · subst hll hhh
                go_wp2
                go_region
                all_goals go_wp2
                all_goals go_roundw
                case rel =>
                  refine ⟨k + 1, by go_num, by omega, fun j hj => ?_, by first | exact HS.out | exact Since.drew HS.out⟩
                  rcases Nat.lt_or_ge j k with h | h
                  · exact HJ.out j h
                  · obtain rfl : j = k := by omega
                    rw [X1.out, X2.out]
                case measure => simp [intOf]; omega
              · have z2 : (hi1 == hi2) = false := by rw [beq_eq_false_iff_ne]; exact hhh
                subst hll
                have NO : ¬ xs = ys := fun e => hhh (by
                  have := X1.out.symm.trans ((congrArg (fun l => l[k]?) e).trans X2.out)
                  injection this with this; injection this)
                go_wp2
                go_region
                all_goals go_wp2
                all_goals go_ret
                all_goals exact .of ((decide_eq_false NO).symm.trans E.out.symm) (by first | exact HS.out | exact Since.drew HS.out)
            · have z1 : (lo1 == lo2) = false := by rw [beq_eq_false_iff_ne]; exact hll
              have NO : ¬ xs = ys := fun e => hll (by
                have := X1.out.symm.trans ((congrArg (fun l => l[k]?) e).trans X2.out)
                injection this with this; injection this)
              go_wp2
              go_region
              all_goals go_wp2
              all_goals go_ret
              all_goals exact .of ((decide_eq_false NO).symm.trans E.out.symm) (by first | exact HS.out | exact Since.drew HS.out)
          · obtain rfl : k = n := by omega
            have YES := upto' HN.out HM.out HJ.out
            go_wp2
            go_ret
            exact .of ((decide_eq_true YES).symm.trans E.out.symm) HS.out
      · have NO : ¬ xs = ys := fun e => hnm (by rw [HN.out, HM.out, e])
        have z1 : ((n : Int) == (m : Int)) = false := by rw [beq_eq_false_iff_ne]; omega
        go_enter Try.func75, Try.ntmps75
        go_wp2_with (first | (go_at_call 73; (with_reducible refine (RA1.out _ (Since.refl _)).mono ?_); rintro e w1 ⟨rfl, k1⟩) | (go_at_call 73; (with_reducible refine (RB1.out _ k1).mono ?_); rintro e w2 ⟨rfl, k2⟩))
        go_ret
        exact .of ((decide_eq_false NO).symm.trans E.out.symm) (k1.trans k2)
end Go.Proofs.Ytilgmkhcpmegjaa.Zs
end
section
namespace Go.Proofs.Ytilgmkhcpmegjaa.Ln
open Go.RowKit
open Go.Proofs.Ytilgmkhcpmegjaa.Dig Go.Proofs.Ytilgmkhcpmegjaa.Lx Go.Proofs.Ytilgmkhcpmegjaa.Tk Go.Proofs.Ytilgmkhcpmegjaa.Ti Go.Proofs.Ytilgmkhcpmegjaa.Zs Go.Proofs.Ytilgmkhcpmegjaa.Tr Go.Proofs.Ytilgmkhcpmegjaa.Sn
section
open Go.RowKit
open Go.Proofs.Ytilgmkhcpmegjaa.Dig Go.Proofs.Ytilgmkhcpmegjaa.Lx Go.Proofs.Ytilgmkhcpmegjaa.Tk Go.Proofs.Ytilgmkhcpmegjaa.Ti Go.Proofs.Ytilgmkhcpmegjaa.Zs Go.Proofs.Ytilgmkhcpmegjaa.Tr Go.Proofs.Ytilgmkhcpmegjaa.Sn
/-- the call ends in domains of its own and 0, or in none and a number -/
def RetNr (p : Option Ds × Int) (w : World) (e : Ending) (w' : World) : Prop :=
  Since w w' ∧ match p.1 with
  | none => e = .returned (.tuple #[.slice none 0 0, .int .i64 p.2])
  | some E => ∃ g n, e = .returned (.tuple #[.slice (some ⟨g, 0, none⟩) n n, .int .i64 p.2]) ∧ w.heap.size ≤ g ∧ g < w'.heap.size ∧ DAt g n w w' E
theorem DAt.low {g n : Nat} {w0 w1 w : World} {D : Ds} (h : DAt g n w1 w D) (hs : w0.heap.size ≤ w1.heap.size) : DAt g n w0 w D := by
  obtain ⟨hl, cs, h1, h2, h3, h9⟩ := h
  refine ⟨hl, cs, h1, h2, fun i d hd => ?_, h9⟩
  obtain ⟨u, h4, h5, h6⟩ := h3 i d hd
  exact ⟨u, h4, h5, fun b hb => ⟨Nat.le_trans hs (h6 b hb).1, (h6 b hb).2⟩⟩
end
section
open Go.RowKit
open Go.Proofs.Ytilgmkhcpmegjaa.Dig Go.Proofs.Ytilgmkhcpmegjaa.Lx Go.Proofs.Ytilgmkhcpmegjaa.Tk Go.Proofs.Ytilgmkhcpmegjaa.Ti Go.Proofs.Ytilgmkhcpmegjaa.Zs Go.Proofs.Ytilgmkhcpmegjaa.Tr Go.Proofs.Ytilgmkhcpmegjaa.Sn
end
section
open Go.RowKit
open Go.Proofs.Ytilgmkhcpmegjaa.Dig Go.Proofs.Ytilgmkhcpmegjaa.Lx Go.Proofs.Ytilgmkhcpmegjaa.Tk Go.Proofs.Ytilgmkhcpmegjaa.Ti Go.Proofs.Ytilgmkhcpmegjaa.Zs Go.Proofs.Ytilgmkhcpmegjaa.Tr Go.Proofs.Ytilgmkhcpmegjaa.Sn
def aD : Ds := [[(0, 5)], [(0, 5)]]
def aC : Cn := ⟨1, [0, 1], [1, 1], 9⟩
def aC2 : Cn := ⟨2, [0], [1], -1⟩
theorem aN1 : narO aC aD = (some [[(4, 5)], [(4, 5)]], 0) := by decide +kernel
theorem aN2 : narO aC2 aD = (none, 12) := by decide +kernel
theorem szA {c : Cn} (h : c = aC ∨ c = aC2) : SzM ⟨aD, [c], 0, 0⟩ := by
  refine ⟨fun d hd => ?_, fun c' hc => ?_⟩
  · simp [aD] at hd; subst hd; simp
  · simp at hc; subst hc; rcases h with rfl | rfl <;> simp [aC, aC2, SzC]
theorem ranges_same {v1 v2 : Value} {l : List Rn} {w : World} (h1 : Sl 2 QR w v1 l) (h2 : Sl 2 QR w v2 l) (hl : l.length ≤ 1100000) : Calls Try.prog 27 #[v1, v2] w (RetT true w) := by
  have := ranges_any v1 v2 l l w h1 h2 hl
  rw [decide_eq_true rfl] at this
  exact this
end
end Go.Proofs.Ytilgmkhcpmegjaa.Ln
end
