/- Layer 9 (set): slices.Equal on ranges, Same, Without, the landed ones. -/
import Derived.Test.YtdlbfpodgjkimaaEg
namespace Go.Proofs.Ytdlbfpodgjkimaa.Zs
open Go.RowKit
set_option linter.unusedVariables false
set_option linter.unusedSimpArgs false
open Go.Proofs.Ytdlbfpodgjkimaa.Dig Go.Proofs.Ytdlbfpodgjkimaa.Lx Go.Proofs.Ytdlbfpodgjkimaa.Tk Go.Proofs.Ytdlbfpodgjkimaa.Ti

/-- ends in a truth value: whether P holds -/
def RetB (P : Prop) (w : World) (e : Ending) (w' : World) : Prop := ∃ r : Bool, e = .returned (.bool r) ∧ (r = true ↔ P) ∧ Since w w'
theorem upto' {α : Type} {xs ys : List α} {n : Nat} (hx : n = xs.length) (hy : n = ys.length) (h : ∀ j, j < n → xs[j]? = ys[j]?) : xs = ys := by
  apply List.ext_getElem?
  intro j
  rcases Nat.lt_or_ge j n with hj | hj
  · exact h j hj
  · rw [List.getElem?_eq_none (by omega), List.getElem?_eq_none (by omega)]
set_option maxRecDepth 20000 in
set_option maxHeartbeats 4000000 in
theorem equal_any (v1 v2 : Value) (xs ys : List (Int × Int)) (w0 : World) (h1 : Sl 2 QR w0 v1 xs) (h2 : Sl 2 QR w0 v2 ys) (hl : ys.length ≤ 100000) (w : World) (hs : Since w0 w) :
    Calls Try.prog 39 #[v1, v2] w (RetB (xs = ys) w) := by
  have h1 := h1.since stR hs
  have h2 := h2.since stR hs
  clear hs
  have H1 := Lib.hid h1
  have H2 := Lib.hid h2
  obtain ⟨A1, c1, rfl⟩ := h1.form
  obtain ⟨A2, c2, rfl⟩ := h2.form
  obtain ⟨n, hnn⟩ : ∃ n, n = xs.length := ⟨_, rfl⟩
  obtain ⟨m, hmm⟩ : ∃ m, m = ys.length := ⟨_, rfl⟩
  rw [← hnn] at H1 ⊢
  rw [← hmm] at H2 hl ⊢
  have HN := Lib.hid hnn
  have HM := Lib.hid hmm
  clear h1 h2 hnn hmm
  by_cases hnm : n = m
  · subst hnm
    go_enter Try.func39, Try.ntmps39
    go_wp2
    go_loopw [13] (fun i wr => ∃ k : Nat, i = .int .i64 (k : Int) ∧ k ≤ n ∧ Hid (∀ j, j < k → xs[j]? = ys[j]?) ∧ Hid (Since w wr)) (fun i _ => n - (intOf i).toNat)
    case atStart => exact ⟨0, rfl, Nat.zero_le _, fun j hj => absurd hj (Nat.not_lt_zero _), Since.refl _⟩
    case round =>
      obtain ⟨k, rfl, hk, HJ, HS⟩ := hrel
      by_cases hkn : k < n
      · have k1 : k < xs.length := by have := HN.out; omega
        have k2 : k < ys.length := by have := HM.out; omega
        obtain ⟨b1, o1, u1, rfl, q1, ul1, cs1⟩ := H1.out.el k1
        obtain ⟨b2, o2, u2, rfl, q2, ul2, cs2⟩ := H2.out.el k2
        have x1 : xs[k]? = some xs[k] := List.getElem?_eq_getElem k1
        have x2 : ys[k]? = some ys[k] := List.getElem?_eq_getElem k2
        obtain ⟨y1, e1⟩ : ∃ y, y = xs[k] := ⟨_, rfl⟩
        obtain ⟨y2, e2⟩ : ∃ y, y = ys[k] := ⟨_, rfl⟩
        rw [← e1] at q1 x1
        rw [← e2] at q2 x2
        obtain ⟨lo1, hi1⟩ := y1
        obtain ⟨lo2, hi2⟩ := y2
        have up : ∀ {p : Addr} {u : Value}, w.cell? p = some u → wr.cell? p = some u := fun g => (HS.out.cell _ (World.block_lt_of_cell? _ _ g)).trans g
        simp only [QR] at q1 q2
        subst q1 q2
        have f0 := up (cs1 0 _ rfl)
        have f1 := up (cs1 1 _ rfl)
        have g0 := up (cs2 0 _ rfl)
        have g1 := up (cs2 1 _ rfl)
        rw [Nat.add_zero] at f0 g0
        have F0 : wr.drew.cell? _ = _ := f0
        have F1 : wr.drew.cell? _ = _ := f1
        have G0 : wr.drew.cell? _ = _ := g0
        have G1 : wr.drew.cell? _ = _ := g1
        have X1 := Lib.hid x1
        have X2 := Lib.hid x2
        clear up e1 e2 ul1 ul2 cs1 cs2 x1 x2
        by_cases hll : lo1 = lo2
        · by_cases hhh : hi1 = hi2
          · subst hll hhh
            go_wp2
            go_region
            all_goals go_wp2
            all_goals go_roundw
            case rel =>
              refine ⟨k + 1, by go_num, by omega, fun j hj => ?_, by first | exact HS.out | exact Since.drew HS.out⟩
              rcases Nat.lt_or_ge j k with h | h
              · exact HJ.out j h
              · obtain rfl : j = k := by omega
                rw [X1.out, X2.out]
            case measure => simp [intOf]; omega
          · have z2 : (hi1 == hi2) = false := by rw [beq_eq_false_iff_ne]; exact hhh
            subst hll
            have NO : ¬ xs = ys := fun e => hhh (by
              have := X1.out.symm.trans ((congrArg (fun l => l[k]?) e).trans X2.out)
              injection this with this; injection this)
            go_wp2
            go_region
            all_goals go_wp2
            all_goals go_ret
            all_goals exact ⟨false, rfl, ⟨fun h => (by cases h), fun h => absurd h NO⟩, by first | exact HS.out | exact Since.drew HS.out⟩
        · have z1 : (lo1 == lo2) = false := by rw [beq_eq_false_iff_ne]; exact hll
          have NO : ¬ xs = ys := fun e => hll (by
            have := X1.out.symm.trans ((congrArg (fun l => l[k]?) e).trans X2.out)
            injection this with this; injection this)
          go_wp2
          go_region
          all_goals go_wp2
          all_goals go_ret
          all_goals exact ⟨false, rfl, ⟨fun h => (by cases h), fun h => absurd h NO⟩, by first | exact HS.out | exact Since.drew HS.out⟩
      · obtain rfl : k = n := by omega
        have YES := upto' HN.out HM.out HJ.out
        go_wp2
        go_ret
        exact ⟨true, rfl, ⟨fun _ => YES, fun _ => rfl⟩, HS.out⟩
  · have NO : ¬ xs = ys := fun e => hnm (by rw [HN.out, HM.out, e])
    have z1 : ((n : Int) == (m : Int)) = false := by rw [beq_eq_false_iff_ne]; omega
    go_enter Try.func39, Try.ntmps39
    go_wp2
    go_ret
    exact ⟨false, rfl, ⟨fun h => (by cases h), fun h => absurd h NO⟩, Since.refl _⟩
theorem same_any (v1 v2 : Value) (l1 l2 : List Rn) (w : World) (h1 : Sl 2 QR w v1 l1) (h2 : Sl 2 QR w v2 l2) (hl1 : l1.length ≤ 100000) (hl2 : l2.length ≤ 100000) (hb : Bd l1) :
    Calls Try.prog 30 #[v1, v2] w (RetT (same l1 l2) w) := by
  obtain ⟨A1, c1, rfl⟩ := h1.form
  obtain ⟨A2, c2, rfl⟩ := h2.form
  have EA := Lib.hid (fun W (k : Since w W) => equal_any _ _ l1 l2 w h1 h2 hl2 W k)
  cases hr : right l1 with
  | false =>
    have RA := Lib.hid (right_at h1 hl1 hb hr)
    have e : same l1 l2 = false := by rw [same, hr]; rfl
    rw [e]
    clear h1 h2 hb hr e
    go_enter Try.func30, Try.ntmps30
    go_wp2_with (go_at_call 14; (with_reducible refine (RA.out _ (Since.refl _)).mono ?_); rintro e w1 ⟨rfl, k1⟩)
    go_ret
    exact ⟨rfl, k1⟩
  | true =>
    have RA := Lib.hid (right_at h1 hl1 hb hr)
    have e : same l1 l2 = decide (l1 = l2) := by rw [same, hr]; rfl
    rw [e]
    obtain ⟨P, hP⟩ : ∃ P, P = (l1 = l2) := ⟨_, rfl⟩
    have D := Lib.hid (fun (r : Bool) (h : r = true ↔ (l1 = l2)) => show r = decide (l1 = l2) by cases r <;> simp_all)
    clear h1 h2 hb hr e
    go_enter Try.func30, Try.ntmps30
    go_wp2_with (first
      | (go_at_call 14; (with_reducible refine (RA.out _ (Since.refl _)).mono ?_); rintro e w1 ⟨rfl, k1⟩)
      | (go_at_call 39; (with_reducible refine (EA.out _ k1).mono ?_); rintro e w2 ⟨r, rfl, hr, k2⟩))
    go_ret
    exact ⟨congrArg (fun b => Ending.returned (.bool b)) (D.out r hr), k1.trans k2⟩
set_option maxRecDepth 20000 in
set_option maxHeartbeats 1000000 in
theorem without_any (v : Value) (l : List Rn) (x : Int) (w : World) (h : Sl 2 QR w v l) (hl : l.length ≤ 100000) (hb : Bd l) (hx : fits x) :
    Calls Try.prog 26 #[v, .int .i64 x] w (RetS (without l x) w) := by
  obtain ⟨A, c, rfl⟩ := h.form
  cases hr : right l with
  | false =>
    have RA := Lib.hid (right_at h hl hb hr)
    have E := Lib.hid (show without l x = [] by rw [without, if_neg (by simp [hr])])
    clear h hb hr
    go_enter Try.func26, Try.ntmps26
    go_wp2_with (go_at_call 14; (with_reducible refine (RA.out _ (Since.refl _)).mono ?_); rintro e w1 ⟨rfl, k1⟩)
    go_ret
    exact .none E.out k1
  | true =>
    have RA := Lib.hid (right_at h hl hb hr)
    have HF := Lib.hid (right_full hr)
    obtain ⟨R, hR⟩ : ∃ R, R = withoutF l x := ⟨_, rfl⟩
    have e : without l x = R := by rw [without, if_pos hr, hR]
    rw [e]
    obtain ⟨n, hn⟩ : ∃ n, n = l.length := ⟨_, rfl⟩
    rw [← hn] at h hl RA ⊢
    have H := Lib.hid h
    have HN := Lib.hid hn
    have HR := Lib.hid hR
    have WF := Lib.hid (fun (A : Option Addr) (m c : Nat) (xs : List Rn) (a b : Int) (W : World) (h : Rw w W (.slice A m c) xs) (hl : xs.length ≤ 900000) => withFull_any (.slice A m c) xs a b W h hl)
    simp only [fits] at hx
    clear h hn hb hR e hr
    go_enter Try.func26, Try.ntmps26
    go_wp2_with (go_at_call 14; (with_reducible refine (RA.out _ (Since.refl _)).mono ?_); rintro e w1 ⟨rfl, k1⟩)
    go_loopw [5, 13] (fun s i wr => ∃ (k : Nat) (A : Option Addr) (m c : Nat) (xs : List Rn), i = .int .i64 (k : Int) ∧ s = .slice A m c ∧ k ≤ n ∧ m ≤ 2 * k ∧ Hid (xs.length = m) ∧ Hid (Rw w wr (.slice A m c) xs) ∧ Hid (xs ++ withoutF (l.drop k) x = R)) (fun _ i _ => n - (intOf i).toNat)
    case atStart => exact ⟨0, none, 0, 0, [], rfl, rfl, Nat.zero_le _, Nat.le_refl _, rfl, .nil k1, HR.out.symm⟩
    case round =>
      obtain ⟨k, A2, m, c2, xs, rfl, rfl, hk, hm, HX, HW, HE⟩ := hrel
      by_cases hkn : k < n
      · have hkl : k < l.length := by have := HN.out; omega
        obtain ⟨g, o, rfl, e0, e1⟩ := elR (H.out.since stR HW.out.2) hkl
        have hst := HE.out
        have hbz := HF.out l[k] (List.getElem_mem hkl)
        rw [drop_at hkl, withoutF, ← List.append_assoc, wo] at hst
        generalize l[k] = y at *
        obtain ⟨lo0, hi0⟩ := y
        simp only [mx] at hst e0 e1 hbz
        have ka := Lib.hid (since_alloc wr (.cells #[.int .i64 lo0, .int .i64 hi0] 32))
        have ST := Lib.hid hst
        have WB := Lib.hid (HW.out.since ka.out)
        obtain ⟨r0, r1⟩ := (Bx.fresh wr #[.int .i64 lo0, .int .i64 hi0] 32).two
        have QQ := Lib.hid (Bx.fresh (wr.alloc (.cells #[.int .i64 lo0, .int .i64 hi0] 32)) #[.int .i64 lo0, .int .i64 hi0] 32).two
        have hlx : xs.length ≤ 900000 := by have := HX.out; omega
        have hgs : (wr.alloc (.cells #[.int .i64 lo0, .int .i64 hi0] 32)).heap.size = wr.heap.size + 1 := by simp
        rw [hgs] at QQ
        clear hst hkl HE hgs
        by_cases c0 : x < lo0 ∨ x > hi0
        · have HE := Lib.hid (show xs ++ [(lo0, hi0)] ++ withoutF (l.drop (k + 1)) x = R by rw [← ST.out, if_pos c0])
          rcases Classical.em (x < lo0) with c1 | c1
          · clear c0
            go_wp2_with (at_builtin; refine wpList_app (WB.out.since (since_alloc _ _)) (by omega) (lo0, hi0) (wr.heap.size + 1) 1 QQ.out.1 QQ.out.2 (by rfl) _ _ rfl rfl rfl ?_; intro A3 c3 w2 h2 _; rw [HX.out] at h2)
            go_roundw
            case rel => exact ⟨k + 1, A3, m + 1, c3, _, by go_num, by rw [HX.out], by omega, by omega, by rw [List.length_append, HX.out]; rfl, h2, HE.out⟩
            case measure => simp [intOf]; omega
          · have c2 : x > hi0 := c0.resolve_left c1
            clear c0
            go_wp2_with (at_builtin; refine wpList_app (WB.out.since (since_alloc _ _)) (by omega) (lo0, hi0) (wr.heap.size + 1) 1 QQ.out.1 QQ.out.2 (by rfl) _ _ rfl rfl rfl ?_; intro A3 c3 w2 h2 _; rw [HX.out] at h2)
            go_roundw
            case rel => exact ⟨k + 1, A3, m + 1, c3, _, by go_num, by rw [HX.out], by omega, by omega, by rw [List.length_append, HX.out]; rfl, h2, HE.out⟩
            case measure => simp [intOf]; omega
        · have HE := Lib.hid (show xs ++ one lo0 (x - 1) ++ one (x + 1) hi0 ++ withoutF (l.drop (k + 1)) x = R by rw [← ST.out, if_neg c0, List.append_assoc xs])
          have c1 : ¬ x < lo0 := fun h => c0 (.inl h)
          have c2 : ¬ x > hi0 := fun h => c0 (.inr h)
          clear c0
          have V1 := Lib.hid (app_len xs lo0 (x - 1))
          have V2 := Lib.hid (app_len (xs ++ one lo0 (x - 1)) (x + 1) hi0)
          go_wp2_with (first
            | (go_at_call 38; (with_reducible refine (WF.out _ _ _ xs _ _ _ WB.out (by omega)).mono ?_); rintro e w2 ⟨A3, m3, c3, rfl, hm3, h3, q3⟩; obtain ⟨r0, r1⟩ := (Keep.box HW.out q3).two; have hm3' : m3 ≤ m + 1 := (by rw [← hm3, ← HX.out]; exact V1.out))
            | (go_at_call 38; (with_reducible refine (WF.out _ _ _ _ _ _ _ h3 (by omega)).mono ?_); rintro e w4 ⟨A4, m4, c4, rfl, hm4, h4, -⟩; have hm4' : m4 ≤ m3 + 1 := (by rw [← hm4, ← hm3]; exact V2.out)))
          go_roundw
          case rel => exact ⟨k + 1, A4, m4, c4, _, by go_num, rfl, by omega, by omega, hm4, h4, HE.out⟩
          case measure => simp [intOf]; omega
      · obtain rfl : k = n := by omega
        have HE2 := Lib.hid (show xs = R by rw [← HE.out, List.drop_of_length_le (by have := HN.out; omega)]; simp [withoutF])
        go_wp2
        go_ret
        exact .of HE2.out HX.out HW.out
end Go.Proofs.Ytdlbfpodgjkimaa.Zs
