/- Layer 9 (set): the document's own Same; law 8's comparison of ranges. Layer 9 (set): a slice of ranges that ca -/
import Derived.Test.YtalcgjkegohhgaaEj
import Derived.Lib.SmallJoins
import Derived.Test.YtalcgjkegohhgaaQar
import Derived.Deep.OwnRows
set_option linter.unusedVariables false
set_option linter.unusedSimpArgs false
section
namespace Go.Proofs.Ytalcgjkegohhgaa.Zs
open Go.RowKit
open Go.Proofs.Ytalcgjkegohhgaa.Dig Go.Proofs.Ytalcgjkegohhgaa.Lx Go.Proofs.Ytalcgjkegohhgaa.Tk Go.Proofs.Ytalcgjkegohhgaa.Ti
set_option maxRecDepth 20000 in
set_option maxHeartbeats 1000000 in
theorem ranges_any (v1 v2 : Value) (xs ys : List Rn) (w : World) (h1 : Sl 2 QR w v1 xs) (h2 : Sl 2 QR w v2 ys) (hl : ys.length ≤ 1100000) :
    Calls Try.prog 31 #[v1, v2] w (RetT (decide (xs = ys)) w) := by
  have H1 := Lib.hid h1
  have H2 := Lib.hid h2
  obtain ⟨A1, c1, rfl⟩ := h1.form
  obtain ⟨A2, c2, rfl⟩ := h2.form
  obtain ⟨n, hnn⟩ : ∃ n, n = xs.length := ⟨_, rfl⟩
  obtain ⟨m, hmm⟩ : ∃ m, m = ys.length := ⟨_, rfl⟩
  rw [← hnn] at H1 ⊢
  rw [← hmm] at H2 hl ⊢
  have HN := Lib.hid hnn
  have HM := Lib.hid hmm
  clear h1 h2 hnn hmm
  by_cases hnm : n = m
  · subst hnm
    go_enter Try.func31, Try.ntmps31
    go_wp2
    go_loopw [13] (fun i wr => ∃ k : Nat, i = .int .i64 (k : Int) ∧ k ≤ n ∧ Hid (∀ j, j < k → xs[j]? = ys[j]?) ∧ Hid (Since w wr)) (fun i _ => n - (intOf i).toNat)
    case atStart => exact ⟨0, rfl, Nat.zero_le _, fun j hj => absurd hj (Nat.not_lt_zero _), Since.refl _⟩
    case round =>
      obtain ⟨k, rfl, hk, HJ, HS⟩ := hrel
      by_cases hkn : k < n
      · have k1 : k < xs.length := by have := HN.out; omega
        have k2 : k < ys.length := by have := HM.out; omega
        obtain ⟨b1, o1, u1, rfl, q1, ul1, cs1⟩ := H1.out.el k1
        obtain ⟨b2, o2, u2, rfl, q2, ul2, cs2⟩ := H2.out.el k2
        have x1 : xs[k]? = some xs[k] := List.getElem?_eq_getElem k1
        have x2 : ys[k]? = some ys[k] := List.getElem?_eq_getElem k2
        obtain ⟨y1, e1⟩ : ∃ y, y = xs[k] := ⟨_, rfl⟩
        obtain ⟨y2, e2⟩ : ∃ y, y = ys[k] := ⟨_, rfl⟩
        rw [← e1] at q1 x1
        rw [← e2] at q2 x2
        obtain ⟨lo1, hi1⟩ := y1
        obtain ⟨lo2, hi2⟩ := y2
        have up : ∀ {p : Addr} {u : Value}, w.cell? p = some u → wr.cell? p = some u := fun g => (HS.out.cell _ (World.block_lt_of_cell? _ _ g)).trans g
        simp only [QR] at q1 q2
        subst q1 q2
        have f0 := up (cs1 0 _ rfl)
        have f1 := up (cs1 1 _ rfl)
        have g0 := up (cs2 0 _ rfl)
        have g1 := up (cs2 1 _ rfl)
        rw [Nat.add_zero] at f0 g0
        have F0 : wr.drew.cell? _ = _ := f0
        have F1 : wr.drew.cell? _ = _ := f1
        have G0 : wr.drew.cell? _ = _ := g0
        have G1 : wr.drew.cell? _ = _ := g1
        have X1 := Lib.hid x1
        have X2 := Lib.hid x2
        clear up e1 e2 ul1 ul2 cs1 cs2 x1 x2
        by_cases hll : lo1 = lo2
        · by_cases hhh : hi1 = hi2
          · subst hll hhh
            go_wp2
            go_region
            all_goals go_wp2
            all_goals go_roundw
            case rel =>
              refine ⟨k + 1, by go_num, by omega, fun j hj => ?_, by first | exact HS.out | exact Since.drew HS.out⟩
              rcases Nat.lt_or_ge j k with h | h
              · exact HJ.out j h
              · obtain rfl : j = k := by omega
                rw [X1.out, X2.out]
            case measure => simp [intOf]; omega
          · have z2 : (hi1 == hi2) = false := by rw [beq_eq_false_iff_ne]; exact hhh
            subst hll
            have NO : ¬ xs = ys := fun e => hhh (by
              have := X1.out.symm.trans ((congrArg (fun l => l[k]?) e).trans X2.out)
              injection this with this; injection this)
            go_wp2
            go_region
            all_goals go_wp2
            all_goals go_ret
            all_goals exact .of ((decide_eq_false NO).symm) (by first | exact HS.out | exact Since.drew HS.out)
        · have z1 : (lo1 == lo2) = false := by rw [beq_eq_false_iff_ne]; exact hll
          have NO : ¬ xs = ys := fun e => hll (by
            have := X1.out.symm.trans ((congrArg (fun l => l[k]?) e).trans X2.out)
            injection this with this; injection this)
          go_wp2
          go_region
          all_goals go_wp2
          all_goals go_ret
          all_goals exact .of ((decide_eq_false NO).symm) (by first | exact HS.out | exact Since.drew HS.out)
      · obtain rfl : k = n := by omega
        have YES := upto' HN.out HM.out HJ.out
        go_wp2
        go_ret
        exact .of ((decide_eq_true YES).symm) HS.out
  · have NO : ¬ xs = ys := fun e => hnm (by rw [HN.out, HM.out, e])
    have z1 : ((n : Int) == (m : Int)) = false := by rw [beq_eq_false_iff_ne]; omega
    go_enter Try.func31, Try.ntmps31
    go_wp2
    go_ret
    exact .of (decide_eq_false NO).symm (Since.refl _)
set_option maxRecDepth 20000 in
set_option maxHeartbeats 1000000 in
theorem rsame_any (v1 v2 : Value) (xs ys : List Rn) (w : World) (h1 : Sl 2 QR w v1 xs) (h2 : Sl 2 QR w v2 ys) (hl1 : xs.length ≤ 1100000) (hl : ys.length ≤ 1100000) (hb1 : Bd xs) (hb2 : Bd ys) :
    Calls Try.prog 67 #[v1, v2] w (RetT (same xs ys) w) := by
  have H1 := Lib.hid h1
  have H2 := Lib.hid h2
  obtain ⟨A1, c1, rfl⟩ := h1.form
  obtain ⟨A2, c2, rfl⟩ := h2.form
  have RA := Lib.hid (fun b (e : right xs = b) => rright_at h1 hl1 hb1 e)
  have RB := Lib.hid (fun b (e : right ys = b) => rright_at h2 hl hb2 e)
  obtain ⟨n, hnn⟩ : ∃ n, n = xs.length := ⟨_, rfl⟩
  obtain ⟨m, hmm⟩ : ∃ m, m = ys.length := ⟨_, rfl⟩
  rw [← hnn] at H1 RA ⊢
  rw [← hmm] at H2 hl RB ⊢
  have HN := Lib.hid hnn
  have HM := Lib.hid hmm
  clear h1 h2 hnn hmm hl1 hb1 hb2
  cases hr1 : right xs with
  | false =>
    have E := Lib.hid (show false = same xs ys by rw [same, hr1]; rfl)
    have RA1 := Lib.hid (RA.out _ hr1)
    clear RA RB hr1
    go_enter Try.func67, Try.ntmps67
    go_wp2_with (go_at_call 60; (with_reducible refine (RA1.out _ (Since.refl _)).mono ?_); rintro e w1 ⟨rfl, k1⟩)
    go_ret
    exact .of E.out k1
  | true =>
    have E := Lib.hid (show same xs ys = decide (xs = ys) by rw [same, hr1]; rfl)
    have RA1 := Lib.hid (RA.out _ hr1)
    cases hr2 : right ys with
    | false =>
      have NO : ¬ xs = ys := fun e => by rw [e, hr2] at hr1; cases hr1
      have RB1 := Lib.hid (RB.out _ hr2)
      clear RA RB hr1 hr2
      go_enter Try.func67, Try.ntmps67
      go_wp2_with (first | (go_at_call 60; (with_reducible refine (RA1.out _ (Since.refl _)).mono ?_); rintro e w1 ⟨rfl, k1⟩) | (go_at_call 60; (with_reducible refine (RB1.out _ k1).mono ?_); rintro e w2 ⟨rfl, k2⟩))
      go_ret
      exact .of ((decide_eq_false NO).symm.trans E.out.symm) (k1.trans k2)
    | true =>
      have RB1 := Lib.hid (RB.out _ hr2)
      clear RA RB hr1 hr2
      by_cases hnm : n = m
      · subst hnm
        go_enter Try.func67, Try.ntmps67
        go_wp2_with (first | (go_at_call 60; (with_reducible refine (RA1.out _ (Since.refl _)).mono ?_); rintro e w1 ⟨rfl, k1⟩) | (go_at_call 60; (with_reducible refine (RB1.out _ k1).mono ?_); rintro e w2 ⟨rfl, k2⟩))
        go_loopw [5] (fun i wr => ∃ k : Nat, i = .int .i64 (k : Int) ∧ k ≤ n ∧ Hid (∀ j, j < k → xs[j]? = ys[j]?) ∧ Hid (Since w wr)) (fun i _ => n - (intOf i).toNat)
        case atStart => exact ⟨0, rfl, Nat.zero_le _, fun j hj => absurd hj (Nat.not_lt_zero _), k1.trans k2⟩
        case round =>
          obtain ⟨k, rfl, hk, HJ, HS⟩ := hrel
          by_cases hkn : k < n
          · have k1 : k < xs.length := by have := HN.out; omega
            have k2 : k < ys.length := by have := HM.out; omega
            obtain ⟨b1, o1, u1, rfl, q1, ul1, cs1⟩ := H1.out.el k1
            obtain ⟨b2, o2, u2, rfl, q2, ul2, cs2⟩ := H2.out.el k2
            have x1 : xs[k]? = some xs[k] := List.getElem?_eq_getElem k1
            have x2 : ys[k]? = some ys[k] := List.getElem?_eq_getElem k2
            obtain ⟨y1, e1⟩ : ∃ y, y = xs[k] := ⟨_, rfl⟩
            obtain ⟨y2, e2⟩ : ∃ y, y = ys[k] := ⟨_, rfl⟩
            rw [← e1] at q1 x1
            rw [← e2] at q2 x2
            obtain ⟨lo1, hi1⟩ := y1
            obtain ⟨lo2, hi2⟩ := y2
            have up : ∀ {p : Addr} {u : Value}, w.cell? p = some u → wr.cell? p = some u := fun g => (HS.out.cell _ (World.block_lt_of_cell? _ _ g)).trans g
            simp only [QR] at q1 q2
            subst q1 q2
            have f0 := up (cs1 0 _ rfl)
            have f1 := up (cs1 1 _ rfl)
            have g0 := up (cs2 0 _ rfl)
            have g1 := up (cs2 1 _ rfl)
            rw [Nat.add_zero] at f0 g0
            have F0 : wr.drew.cell? _ = _ := f0
            have F1 : wr.drew.cell? _ = _ := f1
            have G0 : wr.drew.cell? _ = _ := g0
            have G1 : wr.drew.cell? _ = _ := g1
            have X1 := Lib.hid x1
            have X2 := Lib.hid x2
            clear up e1 e2 ul1 ul2 cs1 cs2 x1 x2
            by_cases hll : lo1 = lo2
            · by_cases hhh : hi1 = hi2
              · subst hll hhh
                go_wp2
                go_region
                all_goals go_wp2
                all_goals go_roundw
                case rel =>
                  refine ⟨k + 1, by go_num, by omega, fun j hj => ?_, by first | exact HS.out | exact Since.drew HS.out⟩
                  rcases Nat.lt_or_ge j k with h | h
                  · exact HJ.out j h
                  · obtain rfl : j = k := by omega
                    rw [X1.out, X2.out]
                case measure => simp [intOf]; omega
              · have z2 : (hi1 == hi2) = false := by rw [beq_eq_false_iff_ne]; exact hhh
                subst hll
                have NO : ¬ xs = ys := fun e => hhh (by
                  have := X1.out.symm.trans ((congrArg (fun l => l[k]?) e).trans X2.out)
                  injection this with this; injection this)
                go_wp2
                go_region
                all_goals go_wp2
                all_goals go_ret
                all_goals exact .of ((decide_eq_false NO).symm.trans E.out.symm) (by first | exact HS.out | exact Since.drew HS.out)
            · have z1 : (lo1 == lo2) = false := by rw [beq_eq_false_iff_ne]; exact hll
              have NO : ¬ xs = ys := fun e => hll (by
                have := X1.out.symm.trans ((congrArg (fun l => l[k]?) e).trans X2.out)
                injection this with this; injection this)
              go_wp2
              go_region
              all_goals go_wp2
              all_goals go_ret
              all_goals exact .of ((decide_eq_false NO).symm.trans E.out.symm) (by first | exact HS.out | exact Since.drew HS.out)
          · obtain rfl : k = n := by omega
            have YES := upto' HN.out HM.out HJ.out
            go_wp2
            go_ret
            exact .of ((decide_eq_true YES).symm.trans E.out.symm) HS.out
      · have NO : ¬ xs = ys := fun e => hnm (by rw [HN.out, HM.out, e])
        have z1 : ((n : Int) == (m : Int)) = false := by rw [beq_eq_false_iff_ne]; omega
        go_enter Try.func67, Try.ntmps67
        go_wp2_with (first | (go_at_call 60; (with_reducible refine (RA1.out _ (Since.refl _)).mono ?_); rintro e w1 ⟨rfl, k1⟩) | (go_at_call 60; (with_reducible refine (RB1.out _ k1).mono ?_); rintro e w2 ⟨rfl, k2⟩))
        go_ret
        exact .of ((decide_eq_false NO).symm.trans E.out.symm) (k1.trans k2)
end Go.Proofs.Ytalcgjkegohhgaa.Zs
end
section
namespace Go.Proofs.Ytalcgjkegohhgaa.Zs
open Go.RowKit Go.ChangeShapes Go.WideShapes Go.Deep
open Go.Proofs.Ytalcgjkegohhgaa.Dig Go.Proofs.Ytalcgjkegohhgaa.Tk Go.Proofs.Ytalcgjkegohhgaa.Ti
section
variable {H : Type} {enc : TypeId × Value → H} {P : Program} {w : World} {base : Nat} {spare : Nat → Bool} {held : Bool}
/-- a slice that came in, if each element's cells read as something -/
theorem slice_in {α : Type} (dflt : α) {size : Nat} (hs : 0 < size) (Q : World → α → List Value → Prop) (R : α → Prop) {t e : TypeId} {fuel : Nat} {a : Option Addr} {len cap : Nat} {x : DataW H × List MemPlace} (ht : P.underlying t = some (.slice e)) (hC : P.cellsOf e = size)
    (el : ∀ (n : Nat) (cs : List Value) (y : DataW H × List MemPlace), cs.length = size → DataW.trod enc P w base spare held n e cs = some y → ∃ z, Q w z cs ∧ R z)
    (h : DataW.trod enc P w base spare held fuel t [.slice a len cap] = some x) : ∃ l : List α, l.length = len ∧ Sl size Q w (.slice a len cap) l ∧ (∀ z ∈ l, R z) ∧ l.length ≤ maxLen := by
  rcases open_slice ht h with ⟨h0, _⟩ | ⟨ad, l, c, m, n, D, Pl, hcs, hb, hl, hm, hmm, hx, hi⟩
  · injection h0 with h0
    injection h0 with h1 h2 h3
    subst h1 h2 h3
    exact ⟨[], rfl, Sl.nil _ _ _, by simp, Nat.zero_le _⟩
  · injection hcs with hcs
    injection hcs with h1 h2 h3
    subst h1 h2 h3
    have hlm : len ≤ m := by rw [hmm]; split <;> omega
    have key : ∀ i, i < len → ∃ z : α, ∃ u, Q w z u ∧ R z ∧ u.length = size ∧ ∀ j v, u[j]? = some v → w.cell? (ad.add (i * size + j)) = some v := by
      intro i hlt
      obtain ⟨cs', hc, hd⟩ := hi i (by omega)
      rw [hC] at hc
      obtain ⟨_, hcl, hat⟩ := World.cells?_some hc
      obtain ⟨z, hz, hr⟩ := el n cs' _ hcl hd
      refine ⟨z, cs', hz, hr, hcl, fun j v hv => ?_⟩
      have hj : j < size := by
        apply Decidable.byContradiction; intro hn
        rw [List.getElem?_eq_none (by omega)] at hv; cases hv
      have := hat j hj
      rw [Go.Deep.add_add] at this
      rw [this]; exact hv
    obtain ⟨ts, hts, hp⟩ := list_of dflt len key
    subst hts
    have hget : ∀ i (hi : i < ts.length), ts.getD i dflt = ts[i] := fun i hi => by simp [List.getD, hi]
    refine ⟨ts, rfl, ⟨some ad, cap, rfl, hl, fun h0 => ?_⟩, fun z hz => ?_, by omega⟩
    · obtain ⟨b, o, spot⟩ := ad
      have hspot : spot = none := by
        obtain ⟨u, h1, h2, h3, h4⟩ := hp 0 h0
        obtain ⟨v, hv⟩ : ∃ v, u[0]? = some v := ⟨u[0]'(by omega), List.getElem?_eq_getElem (by omega)⟩
        have := World.cell?_spot (h4 0 v hv)
        simpa [Addr.add] using this
      subst hspot
      refine ⟨b, o, rfl, fun i x hx => ?_⟩
      have hi : i < ts.length := by
        apply Decidable.byContradiction; intro hn
        rw [List.getElem?_eq_none (by omega)] at hx; cases hx
      have ex : ts.getD i dflt = x := by
        rw [hget i hi]
        rw [List.getElem?_eq_getElem hi] at hx
        exact Option.some.inj hx
      obtain ⟨u, h1, h2, h3, h4⟩ := hp i hi
      rw [ex] at h1
      refine ⟨u, h1, h3, fun j v hv => ?_⟩
      have := h4 j v hv
      rw [add_at] at this
      rw [show o + i * size + j = o + (i * size + j) by omega]
      exact this
    · obtain ⟨i, hi, rfl⟩ := List.mem_iff_getElem.1 hz
      obtain ⟨u, h1, h2, -⟩ := hp i hi
      rw [hget i hi] at h2
      exact h2
theorem wf_fits {n : Int} (h : (Lit.int .i64 n).wf = true) : Lx.fits n := by
  simp only [Lit.wf, Bool.and_eq_true, decide_eq_true_iff] at h
  have e1 : IntKind.i64.min = -9223372036854775808 := rfl
  have e2 : IntKind.i64.max = 9223372036854775807 := rfl
  rw [e1, e2] at h
  exact ⟨h.1, by omega⟩
theorem range_in {e : TypeId} {f0 f1 : Field} (he : P.underlying e = some (.struct #[f0, f1])) (o0 : f0.offset = 0) (o1 : f1.offset = 1) (c0 : P.cellsOf f0.type = 1) (c1 : P.cellsOf f1.type = 1)
    (t0 : P.underlying f0.type = some (.int .i64)) (t1 : P.underlying f1.type = some (.int .i64)) (n : Nat) (cs : List Value) (y : DataW H × List MemPlace) (hl : cs.length = 2) (hd : DataW.trod enc P w base spare held n e cs = some y) : ∃ z, QR w z cs ∧ (Lx.fits z.1 ∧ Lx.fits z.2) := by
  obtain ⟨ys, n', -, -, -, hyl, hf⟩ := DataW.trod_struct he hd
  match cs, hl with
  | [v0, v1], _ =>
    have g0 := hf 0 f0 rfl
    have g1 := hf 1 f1 rfl
    rw [o0, c0] at g0
    rw [o1, c1] at g1
    simp only [List.drop_zero, List.drop_succ_cons, List.take_succ_cons, List.take_zero] at g0 g1
    have hys : ys.length = 2 := hyl
    match ys, hys with
    | [y0, y1], _ =>
      obtain ⟨n0, e0, -, q0⟩ := DataW.trod_int t0 (show _ = some y0 from g0)
      obtain ⟨n1, e1, -, q1⟩ := DataW.trod_int t1 (show _ = some y1 from g1)
      injection e0 with e0; injection e1 with e1
      subst e0 e1
      exact ⟨(n0, n1), rfl, wf_fits q0, wf_fits q1⟩
/-- the slice came in and reads as ranges -/
def RangesIn (w : World) (a : Option Addr) (len cap : Nat) (l : List Rn) : Prop := l.length = len ∧ Sl 2 QR w (.slice a len cap) l ∧ Bd l ∧ l.length ≤ maxLen
theorem ranges_in {t e : TypeId} {f0 f1 : Field} {fuel : Nat} {a : Option Addr} {len cap : Nat} {x : DataW H × List MemPlace} (ht : P.underlying t = some (.slice e)) (he : P.underlying e = some (.struct #[f0, f1])) (hC : P.cellsOf e = 2)
    (o0 : f0.offset = 0) (o1 : f1.offset = 1) (c0 : P.cellsOf f0.type = 1) (c1 : P.cellsOf f1.type = 1) (t0 : P.underlying f0.type = some (.int .i64)) (t1 : P.underlying f1.type = some (.int .i64))
    (h : DataW.trod enc P w base spare held fuel t [.slice a len cap] = some x) : ∃ l, RangesIn w a len cap l := by
  obtain ⟨l, h1, h2, h3, h4⟩ := slice_in ((0, 0) : Int × Int) (by decide) QR (fun z => Lx.fits z.1 ∧ Lx.fits z.2) ht hC (fun n cs y hl hd => range_in he o0 o1 c0 c1 t0 t1 n cs y hl hd) h
  exact ⟨l, h1, h2, h3, h4⟩
end
end Go.Proofs.Ytalcgjkegohhgaa.Zs
end
section
namespace Go.Proofs.Ytalcgjkegohhgaa.Tr
open Go.RowKit
open Go.Proofs.Ytalcgjkegohhgaa.Dig Go.Proofs.Ytalcgjkegohhgaa.Lx Go.Proofs.Ytalcgjkegohhgaa.Tk Go.Proofs.Ytalcgjkegohhgaa.Ti Go.Proofs.Ytalcgjkegohhgaa.Zs
theorem info_dom : (Try.prog.info? 33).map (fun i => (i.zero, i.size, i.bytes)) = some (some (.slice none 0 0), 1, 24) := by kernel_rfl
theorem kind1 {P : Program} {t e : TypeId} {z : Value} {bytes : Nat} (ht : P.underlying t = some (.slice e)) (h : (P.info? e).map (fun i => (i.zero, i.size, i.bytes)) = some (some z, 1, bytes)) (hb : bytes ≤ 24) (hz : z.cells.size = 1) : Kind1 P t e := by
  obtain ⟨i0, hi, hz0, hz1, hz2⟩ := info_parts h
  exact ⟨ht, i0, z, bytes, hi, hz0, hz1, hz2, hb, hz⟩
end Go.Proofs.Ytalcgjkegohhgaa.Tr
end
section
namespace Go.Proofs.Ytalcgjkegohhgaa.Sn
open Go.RowKit
open Go.Proofs.Ytalcgjkegohhgaa.Dig Go.Proofs.Ytalcgjkegohhgaa.Lx Go.Proofs.Ytalcgjkegohhgaa.Tk Go.Proofs.Ytalcgjkegohhgaa.Ti Go.Proofs.Ytalcgjkegohhgaa.Zs Go.Proofs.Ytalcgjkegohhgaa.Tr
theorem mul_abs {d s : Int} (h : -1048576 ≤ d ∧ d ≤ 1048576) (k : -1048576 ≤ s ∧ s ≤ 1048576) : (d * s).natAbs ≤ 1099511627776 := by
  rw [Int.natAbs_mul]
  exact Nat.le_trans (Nat.mul_le_mul (show d.natAbs ≤ 1048576 by omega) (show s.natAbs ≤ 1048576 by omega)) (by decide)
theorem mul_lo {d s : Int} (h : -1048576 ≤ d ∧ d ≤ 1048576) (k : -1048576 ≤ s ∧ s ≤ 1048576) : -1099511627776 ≤ d * s := by have := mul_abs h k; omega
theorem mul_hi {d s : Int} (h : -1048576 ≤ d ∧ d ≤ 1048576) (k : -1048576 ≤ s ∧ s ≤ 1048576) : d * s ≤ 1099511627776 := by have := mul_abs h k; omega
end Go.Proofs.Ytalcgjkegohhgaa.Sn
end
section
namespace Go.Proofs.Ytalcgjkegohhgaa.Sn
open Go.RowKit
open Go.Proofs.Ytalcgjkegohhgaa.Dig Go.Proofs.Ytalcgjkegohhgaa.Lx Go.Proofs.Ytalcgjkegohhgaa.Tk Go.Proofs.Ytalcgjkegohhgaa.Ti Go.Proofs.Ytalcgjkegohhgaa.Zs Go.Proofs.Ytalcgjkegohhgaa.Tr
theorem rlinear_any (k : Int) (w : World) : Calls Try.prog 73 #[.int .i64 k] w (fun e w' => e = .returned (.bool (decide (1 ≤ k ∧ k ≤ 6))) ∧ w' = w) := by
  by_cases c1 : 1 ≤ k
  · by_cases c2 : k ≤ 6
    · rw [decide_eq_true ⟨c1, c2⟩]
      go_enter Try.func73, Try.ntmps73
      go_wp2
      go_ret
      exact ⟨rfl, rfl⟩
    · rw [decide_eq_false (fun e => c2 e.2)]
      go_enter Try.func73, Try.ntmps73
      go_wp2
      go_ret
      exact ⟨rfl, rfl⟩
  · rw [decide_eq_false (fun e => c1 e.1)]
    go_enter Try.func73, Try.ntmps73
    go_wp2
    go_ret
    exact ⟨rfl, rfl⟩
section
open Go.RowKit
open Go.Proofs.Ytalcgjkegohhgaa.Dig Go.Proofs.Ytalcgjkegohhgaa.Lx Go.Proofs.Ytalcgjkegohhgaa.Tk Go.Proofs.Ytalcgjkegohhgaa.Ti Go.Proofs.Ytalcgjkegohhgaa.Zs Go.Proofs.Ytalcgjkegohhgaa.Tr
theorem Rb.sl {w0 w : World} {v : Value} {xs : List Int} (h : Rb w0 w v xs) : Sl 1 QI w v xs := by
  obtain ⟨b1, h1, h2⟩ := h
  exact (Rz.of h2).sl
theorem rvalues_at {v va : Value} {c : Cn} {a : List Int} {w : World} (h : ConAt w v c) (ha : Sl 1 QI w va a) (hx : c.x.length ≤ 32) (hin : inR c.x a = true) (W : World) (k : Since w W) :
    Calls Try.prog 76 #[v, va] W (fun e w' => ∃ B bc, e = .returned (.slice B c.x.length bc) ∧ Rb w w' (.slice B c.x.length bc) (vals c.x a) ∧ Since W w') :=
  (rvalues_any v va c a W (h.since k) (ha.since stI k) (by omega) hin).mono fun e w' ⟨B, bc, h1, h2⟩ => ⟨B, bc, h1, ⟨W, k, h2⟩, h2.s⟩
end
section
open Go.Proofs.Ytalcgjkegohhgaa.Zs
end
end Go.Proofs.Ytalcgjkegohhgaa.Sn
end
