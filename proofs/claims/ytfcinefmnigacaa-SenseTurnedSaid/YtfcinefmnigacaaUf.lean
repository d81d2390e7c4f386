/- Layer 11 (sense): the landed model's isRequest and Right. -/
import Derived.Test.YtfcinefmnigacaaUe
namespace Go.Proofs.Ytfcinefmnigacaa.Sn
open Go.RowKit
set_option linter.unusedVariables false
set_option linter.unusedSimpArgs false
open Go.Proofs.Ytfcinefmnigacaa.Dig Go.Proofs.Ytfcinefmnigacaa.Lx Go.Proofs.Ytfcinefmnigacaa.Tk Go.Proofs.Ytfcinefmnigacaa.Ti Go.Proofs.Ytfcinefmnigacaa.Zs Go.Proofs.Ytfcinefmnigacaa.Tr

set_option maxRecDepth 20000 in
set_option maxHeartbeats 2000000 in
theorem isRequest_any (v : Value) (m : Md) (w : World) (h : ModAt w v m) : Calls Try.prog 53 #[v] w (RetT (reqOk m) w) := by
  obtain ⟨vd, vc, rfl, h1, h2⟩ := h
  obtain ⟨ds, cs, ask, goal⟩ := m
  simp only at h1 h2 ⊢
  obtain ⟨D, dc, rfl⟩ := h1.form
  obtain ⟨C, cc, rfl⟩ := h2.form
  obtain ⟨nd, hnd⟩ : ∃ n, n = ds.length := ⟨_, rfl⟩
  obtain ⟨nc, hnc⟩ : ∃ n, n = cs.length := ⟨_, rfl⟩
  have er : reqOk ⟨ds, cs, ask, goal⟩ = if ask = 0 then decide (goal = 0) else if ask = 1 ∨ ask = 2 then isV nd goal else false := by rw [hnd]; rfl
  rw [er]
  rw [← hnd, ← hnc]
  have ka := Lib.hid (since_alloc w (.cells #[.slice D nd dc, .slice C nc cc, .int .i64 ask, .int .i64 goal] 33))
  have D7 := Lib.hid (fun W => isVariable_any goal D nd dc W)
  clear h1 h2 hnd hnc er
  by_cases a0 : ask = 0
  · subst a0
    rw [if_pos rfl]
    by_cases g0 : goal = 0
    · subst g0
      go_enter Try.func53, Try.ntmps53
      go_wp2
      go_ret
      exact ⟨rfl, ka.out⟩
    · have z : (goal == 0) = false := by rw [beq_eq_false_iff_ne]; exact g0
      rw [decide_eq_false g0]
      clear g0
      go_enter Try.func53, Try.ntmps53
      go_wp2
      go_ret
      exact ⟨rfl, ka.out⟩
  · rw [if_neg a0]
    by_cases a12 : ask = 1 ∨ ask = 2
    · rw [if_pos a12]
      clear a0
      rcases a12 with rfl | rfl
      all_goals go_enter Try.func53, Try.ntmps53
      all_goals go_wp2_with (go_at_call 69; (with_reducible refine (D7.out _).mono ?_); rintro e w1 ⟨rfl, rfl⟩)
      all_goals go_ret
      all_goals exact ⟨rfl, ka.out⟩
    · rw [if_neg a12]
      have z0 : (ask == 0) = false := by rw [beq_eq_false_iff_ne]; exact a0
      have z1 : (ask == 1) = false := by rw [beq_eq_false_iff_ne]; omega
      have z2 : (ask == 2) = false := by rw [beq_eq_false_iff_ne]; omega
      clear a0 a12
      go_enter Try.func53, Try.ntmps53
      go_wp2
      go_ret
      exact ⟨rfl, ka.out⟩
/-- not too long for any machine's memory -/
def SzC (c : Cn) : Prop := c.x.length ≤ 1100000 ∧ c.a.length ≤ 1100000
def SzM (m : Md) : Prop := (∀ d ∈ m.ds, d.length ≤ 1100000) ∧ (∀ c ∈ m.cs, SzC c)
theorem dropC {α : Type} {l : List α} {k : Nat} (h : k < l.length) : l.drop k = l[k] :: l.drop (k + 1) := List.drop_eq_getElem_cons h
theorem domOk_pos {d : List Rn} (h : domOk d = true) : 0 < d.length := by
  simp only [domOk, Bool.and_eq_true, decide_eq_true_eq] at h; exact h.2
set_option maxRecDepth 20000 in
set_option maxHeartbeats 4000000 in
theorem mright_any (v : Value) (m : Md) (w : World) (h : ModAt w v m) (hs : SzM m) : Calls Try.prog 36 #[v] w (RetT (modOk m) w) := by
  have RQ := Lib.hid (fun b (hb : reqOk m = b) W (kk : Since w W) => by have := isRequest_any v m W (h.since kk); rw [hb] at this; exact this)
  obtain ⟨vd, vc, rfl, h1, h2⟩ := h
  obtain ⟨ds, cs, ask, goal⟩ := m
  simp only at h1 h2 ⊢
  obtain ⟨hs1, hs2⟩ := hs
  simp only at hs1 hs2
  obtain ⟨D, dc, rfl⟩ := h1.form
  obtain ⟨C, cc, rfl⟩ := h2.form
  obtain ⟨nd, hnd⟩ : ∃ n, n = ds.length := ⟨_, rfl⟩
  obtain ⟨nc, hnc⟩ : ∃ n, n = cs.length := ⟨_, rfl⟩
  obtain ⟨Q, hQ⟩ : ∃ Q, Q = reqOk ⟨ds, cs, ask, goal⟩ := ⟨_, rfl⟩
  obtain ⟨R, hR⟩ : ∃ R, R = modOk ⟨ds, cs, ask, goal⟩ := ⟨_, rfl⟩
  have HR := Lib.hid (show (decide (nd ≤ 64) && decide (nc ≤ 64) && ds.all domOk && cs.all (conOk ds) && Q) = R by rw [hR, hnd, hnc, hQ]; rfl)
  have RR := Lib.hid (RQ.out Q hQ.symm)
  rw [← hR]
  clear hR hQ
  rw [← hnd, ← hnc] at RR ⊢
  rw [← hnd] at h1
  rw [← hnc] at h2
  have H1 := Lib.hid h1
  have H2 := Lib.hid h2
  have HND := Lib.hid hnd
  have HNC := Lib.hid hnc
  have HS1 := Lib.hid hs1
  have HS2 := Lib.hid hs2
  have ka := Lib.hid (since_alloc w (.cells #[.slice D nd dc, .slice C nc cc, .int .i64 ask, .int .i64 goal] 33))
  have BX := Lib.hid (fun W (kk : Since (w.alloc (.cells #[.slice D nd dc, .slice C nc cc, .int .i64 ask, .int .i64 goal] 33)) W) => (Bx.fresh w #[.slice D nd dc, .slice C nc cc, .int .i64 ask, .int .i64 goal] 33).since kk)
  clear h1 h2 hnd hnc hs1 hs2 RQ
  by_cases cd : nd ≤ 64
  case neg =>
    have E := Lib.hid (show false = R by rw [← HR.out, decide_eq_false cd]; rfl)
    go_enter Try.func36, Try.ntmps36
    go_wp2
    go_ret
    exact .of E.out ka.out
  by_cases cn : nc ≤ 64
  case neg =>
    have E := Lib.hid (show false = R by rw [← HR.out, decide_eq_false cn, Bool.and_false]; rfl)
    go_enter Try.func36, Try.ntmps36
    go_wp2
    go_ret
    exact .of E.out ka.out
  have HR2 := Lib.hid (show (ds.all domOk && (cs.all (conOk ds) && Q)) = R by rw [← HR.out, decide_eq_true cd, decide_eq_true cn, Bool.and_assoc]; rfl)
  clear HR
  go_enter Try.func36, Try.ntmps36
  go_wp2
  go_loopw [20] (fun i wr => ∃ k : Nat, i = .int .i64 (k : Int) ∧ k ≤ nd ∧ Hid (((ds.drop k).all domOk && (cs.all (conOk ds) && Q)) = R) ∧ Hid (ds.all domOk = (ds.drop k).all domOk) ∧ Hid (Since (w.alloc (.cells #[.slice D nd dc, .slice C nc cc, .int .i64 ask, .int .i64 goal] 33)) wr)) (fun i _ => nd - (intOf i).toNat)
  case atStart => exact ⟨0, rfl, Nat.zero_le _, HR2.out, rfl, Since.refl _⟩
  case round =>
    obtain ⟨k, rfl, hk, HE, HA, HW⟩ := hrel
    obtain ⟨b0, b1, b2, b3⟩ := bx4 (BX.out _ HW.out)
    by_cases hkn : k < nd
    · have hkl : k < ds.length := by have := HND.out; omega
      obtain ⟨g, o, B2, d2, rfl, S2, e2⟩ := elD (H1.out.since stD (ka.out.trans HW.out)) hkl
      have hst := HE.out
      have hsa := HA.out
      rw [dropC hkl, List.all_cons] at hst hsa
      have hsz := HS1.out _ (List.getElem_mem hkl)
      generalize ds[k] = y at *
      have ST := Lib.hid hst
      have SA := Lib.hid hsa
      have DM := Lib.hid (fun b (hb : domOk y = b) => by have := isDomain_any _ y wr S2 hsz; rw [hb] at this; exact this)
      obtain ⟨p, hp⟩ : ∃ p, p = y.length := ⟨_, rfl⟩
      rw [← hp] at e2 DM
      clear hst hsa hkl HE HA S2 hsz hp
      cases hy : domOk y with
      | true =>
        have HE := Lib.hid (show ((ds.drop (k + 1)).all domOk && (cs.all (conOk ds) && Q)) = R by have := ST.out; rw [hy, Bool.true_and] at this; exact this)
        have HA := Lib.hid (show ds.all domOk = (ds.drop (k + 1)).all domOk by have := SA.out; rw [hy, Bool.true_and] at this; exact this)
        have D7 := Lib.hid (DM.out true hy)
        clear hy ST SA DM
        go_wp2_with (go_at_call 51; (with_reducible refine D7.out.mono ?_); rintro e w7 ⟨rfl, k7⟩)
        go_roundw
        case rel => exact ⟨k + 1, by go_num, by omega, HE.out, HA.out, HW.out.trans k7⟩
        case measure => simp [intOf]; omega
      | false =>
        have HE := Lib.hid (show false = R by have := ST.out; rw [hy, Bool.false_and, Bool.false_and] at this; exact this)
        have D7 := Lib.hid (DM.out false hy)
        clear hy ST SA DM
        go_wp2_with (go_at_call 51; (with_reducible refine D7.out.mono ?_); rintro e w7 ⟨rfl, k7⟩)
        go_ret
        exact .of HE.out (ka.out.trans (HW.out.trans k7))
    · obtain rfl : k = nd := by omega
      have hnil : ds.drop k = [] := List.drop_of_length_le (by have := HND.out; omega)
      have HB := Lib.hid (show (cs.all (conOk ds) && Q) = R by rw [← HE.out, hnil]; rfl)
      have HIN := Lib.hid (show ∀ d ∈ ds, 0 < d.length ∧ d.length ≤ 1100000 from fun d hd => ⟨domOk_pos (List.all_eq_true.1 (show ds.all domOk = true by rw [HA.out, hnil]; rfl) d hd), HS1.out d hd⟩)
      clear hnil HE HA
      rename World => w5
      go_wp2
      go_loopw [31] (fun i wr => ∃ j : Nat, i = .int .i64 (j : Int) ∧ j ≤ nc ∧ Hid (((cs.drop j).all (conOk ds) && Q) = R) ∧ Hid (Since w5 wr)) (fun i _ => nc - (intOf i).toNat)
      case atStart => exact ⟨0, rfl, Nat.zero_le _, HB.out, Since.refl _⟩
      case round =>
        obtain ⟨j, rfl, hj, HE, HV⟩ := hrel
        obtain ⟨b0, b1, b2, b3⟩ := bx4 (BX.out _ (HW.out.trans HV.out))
        by_cases hjn : j < nc
        · have hjl : j < cs.length := by have := HNC.out; omega
          obtain ⟨g, o, X, xc, Y, yc, rfl, S1, S2, e0, e1, e2, e3⟩ := elC (H2.out.since stC (ka.out.trans (HW.out.trans HV.out))) hjl
          have hst := HE.out
          rw [dropC hjl, List.all_cons] at hst
          have hsz := HS2.out _ (List.getElem_mem hjl)
          generalize cs[j] = y at *
          obtain ⟨yk, yx, ya, y_c⟩ := y
          simp only at S1 S2 e0 e1 e2 e3 hsz
          have CN := Lib.hid (fun b (hb : conOk ds ⟨yk, yx, ya, y_c⟩ = b) W (kk : Since wr W) => by have := isConstraint_any (.agg #[.int .i64 yk, .slice X yx.length xc, .slice Y ya.length yc, .int .i64 y_c]) (.slice D k dc) ⟨yk, yx, ya, y_c⟩ ds W ⟨_, _, rfl, S1.since stI kk, S2.since stI kk⟩ (H1.out.since stD (ka.out.trans (HW.out.trans (HV.out.trans kk)))) HIN.out hsz.1 hsz.2 (by have := HND.out; omega); rw [hb] at this; exact this)
          obtain ⟨p1, hp1⟩ : ∃ p, p = yx.length := ⟨_, rfl⟩
          obtain ⟨p2, hp2⟩ : ∃ p, p = ya.length := ⟨_, rfl⟩
          rw [← hp1] at e1 CN
          rw [← hp2] at e2 CN
          have ST := Lib.hid hst
          have kb := Lib.hid (since_alloc wr (.cells #[.int .i64 yk, .slice X p1 xc, .slice Y p2 yc, .int .i64 y_c] 25))
          obtain ⟨f0, f1, f2, f3⟩ := bx4 (BX.out _ (HW.out.trans (HV.out.trans kb.out)))
          clear hst hjl HE S1 S2 hsz hp1 hp2
          cases hy : conOk ds ⟨yk, yx, ya, y_c⟩ with
          | true =>
            have HE := Lib.hid (show ((cs.drop (j + 1)).all (conOk ds) && Q) = R by have := ST.out; rw [hy, Bool.true_and] at this; exact this)
            have D7 := Lib.hid (CN.out true hy _ kb.out)
            clear hy ST CN
            go_wp2_with (go_at_call 52; (with_reducible refine D7.out.mono ?_); rintro e w7 ⟨rfl, k7⟩)
            go_roundw
            case rel => exact ⟨j + 1, by go_num, by omega, HE.out, HV.out.trans (kb.out.trans k7)⟩
            case measure => simp [intOf]; omega
          | false =>
            have HE := Lib.hid (show false = R by have := ST.out; rw [hy, Bool.false_and, Bool.false_and] at this; exact this)
            have D7 := Lib.hid (CN.out false hy _ kb.out)
            clear hy ST CN
            go_wp2_with (go_at_call 52; (with_reducible refine D7.out.mono ?_); rintro e w7 ⟨rfl, k7⟩)
            go_ret
            exact .of HE.out (ka.out.trans (HW.out.trans (HV.out.trans (kb.out.trans k7))))
        · obtain rfl : j = nc := by omega
          have HE2 := Lib.hid (show Q = R by rw [← HE.out, List.drop_of_length_le (by have := HNC.out; omega)]; rfl)
          go_wp2_with (go_at_call 53; (with_reducible refine (RR.out _ (ka.out.trans (HW.out.trans HV.out))).mono ?_); rintro e w9 ⟨rfl, k9⟩)
          go_ret
          exact .of HE2.out (ka.out.trans (HW.out.trans (HV.out.trans k9)))
end Go.Proofs.Ytfcinefmnigacaa.Sn
