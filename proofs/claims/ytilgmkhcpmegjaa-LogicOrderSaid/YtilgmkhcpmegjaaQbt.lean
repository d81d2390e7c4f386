/- Layer 9 (set): the document's own Meet. Layers 11, 12: the document's own Boxes; the law's Few. -/
import Derived.Test.YtilgmkhcpmegjaaEo
import Derived.Test.YtilgmkhcpmegjaaQbf
import Derived.Test.YtilgmkhcpmegjaaQbi
set_option linter.unusedVariables false
set_option linter.unusedSimpArgs false
section
namespace Go.Proofs.Ytilgmkhcpmegjaa.Zs
open Go.RowKit
open Go.Proofs.Ytilgmkhcpmegjaa.Dig Go.Proofs.Ytilgmkhcpmegjaa.Lx Go.Proofs.Ytilgmkhcpmegjaa.Tk Go.Proofs.Ytilgmkhcpmegjaa.Ti
set_option maxRecDepth 20000 in
set_option maxHeartbeats 2000000 in
theorem rmeet_new (v1 v2 : Value) (l1 l2 : List Rn) (w : World) (h1 : Sl 2 QR w v1 l1) (h2 : Sl 2 QR w v2 l2) (hl1 : l1.length ≤ 1100000) (hl2 : l2.length ≤ 1100000) (hb1 : Bd l1) (hb2 : Bd l2) :
    Calls Try.prog 76 #[v1, v2] w (RetF (meet l1 l2) w) := by
  obtain ⟨A1, c1, rfl⟩ := h1.form
  obtain ⟨A2, c2, rfl⟩ := h2.form
  have RA := Lib.hid (fun b (e : right l1 = b) => rright_at h1 (by omega) hb1 e)
  have RB := Lib.hid (fun b (e : right l2 = b) => rright_at h2 (by omega) hb2 e)
  by_cases hr : right l1 = true ∧ right l2 = true
  · have RA1 := Lib.hid (RA.out _ hr.1)
    have RB1 := Lib.hid (RB.out _ hr.2)
    obtain ⟨R, hR⟩ : ∃ R, R = meetF l1 l2 := ⟨_, rfl⟩
    have e : meet l1 l2 = R := by rw [meet, if_pos (by simp [hr.1, hr.2]), hR]
    rw [e]
    have CC := Lib.hid (fun (a b : Int) (W : World) (k : Since w W) => rcut_any (.slice A1 l1.length c1) l1 a b W (h1.since stR k) (by omega) hb1)
    have HF := Lib.hid (right_full hr.2)
    have HRL := Lib.hid (show R.length ≤ 2200000 by have := @meet_len l1 l2; rw [e] at this; omega)
    have HCF := Lib.hid (fun a b => show cut l1 a b = cutF l1 a b by rw [cut, if_pos hr.1])
    obtain ⟨n1, hn1⟩ : ∃ n, n = l1.length := ⟨_, rfl⟩
    obtain ⟨n2, hn2⟩ : ∃ n, n = l2.length := ⟨_, rfl⟩
    rw [← hn1] at h1 hl1 RA1 CC ⊢
    rw [← hn2] at h2 hl2 RB1 ⊢
    have H2 := Lib.hid h2
    have N2 := Lib.hid hn2
    have HR := Lib.hid hR
    clear h1 h2 hn1 hn2 hb1 hb2 hR e hr RA RB
    go_enter Try.func76, Try.ntmps76
    go_wp2_with (first
      | (go_at_call 73; (with_reducible refine (RA1.out _ (Since.refl _)).mono ?_); rintro e w1 ⟨rfl, k1⟩)
      | (go_at_call 73; (with_reducible refine (RB1.out _ k1).mono ?_); rintro e w2 ⟨rfl, k2⟩))
    go_loopw [5, 6] (fun s i wr => ∃ (k : Nat) (A : Option Addr) (m c : Nat) (xs : List Rn), i = .int .i64 (k : Int) ∧ s = .slice A m c ∧ k ≤ n2 ∧ m ≤ 2200000 ∧ Hid (xs.length = m) ∧ Hid (Rw w wr (.slice A m c) xs) ∧ Hid (xs ++ meetF l1 (l2.drop k) = R)) (fun _ i _ => n2 - (intOf i).toNat)
    case atStart => exact ⟨0, none, 0, 0, [], rfl, rfl, Nat.zero_le _, Nat.zero_le _, rfl, .nil (k1.trans k2), HR.out.symm⟩
    case round =>
      obtain ⟨k, A, m, c, xs, rfl, rfl, hk, hm, HX, HW, HE⟩ := hrel
      by_cases hkn : k < n2
      · have hkl : k < l2.length := by have := N2.out; omega
        obtain ⟨g, o, rfl, e0, e1⟩ := elR (H2.out.since stR HW.out.2) hkl
        have hst := HE.out
        rw [drop_at hkl, meetF, ← List.append_assoc] at hst
        generalize l2[k] = y at *
        obtain ⟨lo, hi⟩ := y
        simp only at hst e0 e1
        rw [← HCF.out] at hst
        have CD := Lib.hid (fun W (k : Since w W) => CC.out lo hi W k)
        obtain ⟨ys, hys⟩ : ∃ ys, ys = cut l1 lo hi := ⟨_, rfl⟩
        rw [← hys] at hst CD
        have HE := Lib.hid hst
        have hlx : xs.length ≤ 9000000 := by have := HX.out; omega
        have hw2 : Since w wr := HW.out.2
        have HC := Lib.hid (fun W (kk : Since wr W) => (show W.cell? ⟨g, o + k * 2, none⟩ = some (.int .i64 lo) ∧ W.cell? ⟨g, o + k * 2 + 1, none⟩ = some (.int .i64 hi) from ⟨(kk.cell _ (World.block_lt_of_cell? _ _ e0)).trans e0, (kk.cell _ (World.block_lt_of_cell? _ _ e1)).trans e1⟩))
        clear hst hkl e0 e1 CC HCF hys
        go_wp2
        have hr0 : Since wr wr.drew := Since.drew (Since.refl wr)
        refine wp_region_noPanic ?_
        refine Reg.wp_region_G (S := fun _ => True) (fun j => [13, 14].contains j) (by kernel_rfl) trivial ?_
        refine' Reg.tk3 (i := 0) (v := _) (some 22) [13, 14] [13, 14] rfl (Or.inl ⟨by rfl, Or.inl ?hy1⟩) ?rest1
        case hy1 => (intro w' kk ss; obtain ⟨x0, x1⟩ := HC.out _ (hr0.trans kk); go_simp; first | done | with_reducible rfl)
        try simp only [Act.put, List.setIfInBounds_toArray, List.set_cons_zero, List.set_cons_succ]
        refine' Reg.tk3 (i := 1) (v := _) (some 23) [12, 13, 14] [13, 14] rfl (Or.inl ⟨by rfl, Or.inl ?hy2⟩) ?rest2
        case hy2 => (intro w' kk ss; obtain ⟨x0, x1⟩ := HC.out _ (hr0.trans kk); go_simp; first | done | with_reducible rfl)
        try simp only [Act.put, List.setIfInBounds_toArray, List.set_cons_zero, List.set_cons_succ]
        refine' Reg.tk3 (i := 2) (v := _) (some 24) [4, 5, 6, 12, 13, 14] [13, 14] rfl (Or.inl ⟨by rfl, Or.inl ?hy3⟩) ?rest3
        case hy3 => (intro w' kk ss; obtain ⟨x0, x1⟩ := HC.out _ (hr0.trans kk); go_simp; first | done | with_reducible rfl)
        try simp only [Act.put, List.setIfInBounds_toArray, List.set_cons_zero, List.set_cons_succ]
        refine' Reg.tk3 (i := 3) (v := _) (some 25) [4, 5, 6, 12, 13, 14] [13, 14] rfl (Or.inl ⟨by rfl, Or.inl ?hy4⟩) ?rest4
        case hy4 => (intro w' kk ss; obtain ⟨x0, x1⟩ := HC.out _ (hr0.trans kk); go_simp; first | done | with_reducible rfl)
        try simp only [Act.put, List.setIfInBounds_toArray, List.set_cons_zero, List.set_cons_succ]
        refine' Reg.tk3 (i := 4) (v := _) (some 26) [5, 6, 12, 13, 14] [13, 14] rfl (Or.inl ⟨by rfl, Or.inl ?hy5⟩) ?rest5
        case hy5 => (intro w' kk ss; obtain ⟨x0, x1⟩ := HC.out _ (hr0.trans kk); go_simp; first | done | with_reducible rfl)
        try simp only [Act.put, List.setIfInBounds_toArray, List.set_cons_zero, List.set_cons_succ]
        refine' Reg.tk3 (i := 5) (v := _) (some 27) [6, 12, 13, 14] [13, 14] rfl (Or.inl ⟨by rfl, Or.inl ?hy6⟩) ?rest6
        case hy6 => (intro w' kk ss; obtain ⟨x0, x1⟩ := HC.out _ (hr0.trans kk); go_simp; first | done | with_reducible rfl)
        try simp only [Act.put, List.setIfInBounds_toArray, List.set_cons_zero, List.set_cons_succ]
        refine' Reg.tk3 (i := 6) (v := _) (some 28) [12, 13, 14] [13, 14] rfl (Or.inl ⟨by rfl, Or.inl ?hy7⟩) ?rest7
        case hy7 => (intro w' kk ss; obtain ⟨x0, x1⟩ := HC.out _ (hr0.trans kk); go_simp; first | done | with_reducible rfl)
        try simp only [Act.put, List.setIfInBounds_toArray, List.set_cons_zero, List.set_cons_succ]
        refine' Reg.tk3 (i := 7) (v := _) (some 29) [9, 10, 11, 12, 13, 14] [13, 14] rfl (Or.inl ⟨by rfl, Or.inl ?hy8⟩) ?rest8
        case hy8 => (intro w' kk ss; obtain ⟨x0, x1⟩ := HC.out _ (hr0.trans kk); go_simp; first | done | with_reducible rfl)
        try simp only [Act.put, List.setIfInBounds_toArray, List.set_cons_zero, List.set_cons_succ]
        refine' Reg.tk3 (i := 8) (v := _) (some 30) [9, 10, 11, 12, 13, 14] [13, 14] rfl (Or.inl ⟨by rfl, Or.inl ?hy9⟩) ?rest9
        case hy9 => (intro w' kk ss; obtain ⟨x0, x1⟩ := HC.out _ (hr0.trans kk); go_simp; first | done | with_reducible rfl)
        try simp only [Act.put, List.setIfInBounds_toArray, List.set_cons_zero, List.set_cons_succ]
        refine' Reg.tk3 (i := 9) (v := _) (some 31) [10, 11, 12, 13, 14] [13, 14] rfl (Or.inl ⟨by rfl, Or.inl ?hy10⟩) ?rest10
        case hy10 => (intro w' kk ss; obtain ⟨x0, x1⟩ := HC.out _ (hr0.trans kk); go_simp; first | done | with_reducible rfl)
        try simp only [Act.put, List.setIfInBounds_toArray, List.set_cons_zero, List.set_cons_succ]
        refine' Reg.tk3 (i := 10) (v := _) (some 32) [11, 12, 13, 14] [13, 14] rfl (Or.inl ⟨by rfl, Or.inl ?hy11⟩) ?rest11
        case hy11 => (intro w' kk ss; obtain ⟨x0, x1⟩ := HC.out _ (hr0.trans kk); go_simp; first | done | with_reducible rfl)
        try simp only [Act.put, List.setIfInBounds_toArray, List.set_cons_zero, List.set_cons_succ]
        refine' Reg.tk3 (i := 11) (v := _) (some 33) [12, 13, 14] [13, 14] rfl (Or.inl ⟨by rfl, Or.inl ?hy12⟩) ?rest12
        case hy12 => (intro w' kk ss; obtain ⟨x0, x1⟩ := HC.out _ (hr0.trans kk); go_simp; first | done | with_reducible rfl)
        try simp only [Act.put, List.setIfInBounds_toArray, List.set_cons_zero, List.set_cons_succ]
        refine Reg.wpG_ready (rs := [12]) (by kernel_rfl) (by simp) (fun wa1 ka1 sa1 => ?_)
        have hr0 := hr0.trans ka1
        have hgb1 := hr0.size
        refine Reg.AllG.first (o := { dst := some 34, op := Op.call { callee := Callee.value (Operand.func 138), args := #[Operand.tmp 23, Operand.tmp 28, Operand.tmp 33], argTypes := #[43, 2, 2] }, type := 43, pos := "ref.go:149", after := #[{ on := 1, ground := Ground.data }, { on := 6, ground := Ground.data }, { on := 11, ground := Ground.data }], guard := none }) rfl (by rfl) (fun K hK => ?_) Reg.AllG.nil
        go_simp
        (with_reducible refine (CD.out wa1 (hw2.trans hr0)).mono ?_)
        rintro e ya1 ⟨B, q, d, rfl, hq, hS, hx⟩
        refine hK.out _ _ trivial hx ?_
        clear hK K
        have hr0 := hr0.trans hx
        try simp only [Act.put, List.setIfInBounds_toArray, List.set_cons_zero, List.set_cons_succ]
        refine Reg.wpG_ready (rs := [13]) (by kernel_rfl) (by simp) (fun wq kq sq => ?_)
        have hr0 := hr0.trans kq
        refine Reg.AllG.last (o := { dst := some 35, op := Op.call { callee := Callee.builtin Builtin.append, args := #[Operand.tmp 22, Operand.tmp 34], argTypes := #[43, 43] }, type := 43, pos := "ref.go:149", after := #[{ on := 0, ground := Ground.data }, { on := 12, ground := Ground.data }, { on := 12, ground := Ground.chain }], guard := none }) rfl (by rfl) (fun K hK => ?_) Reg.AllG.nil
        have hqq : m + q ≤ 2200000 := by have h1 := HRL.out; rw [← HE.out, List.length_append, List.length_append, HX.out, hq] at h1; omega
        rw [if_pos (by rfl)]
        refine wp_appIn (HW.out.since hr0) hlx (hS.since stR kq) (by omega) _ _ rfl rfl rfl ?_
        intro A3 c3 w3 h3 _
        refine hK.out _ _ trivial (fun hHeld => ?_)
        clear hK K
        try simp only [Act.put, List.setIfInBounds_toArray, List.set_cons_zero, List.set_cons_succ]
        refine' Reg.ah3 (i := 14) (v := _) (some 5) rfl (by kernel_rfl) (by kernel_rfl) (by kernel_rfl) (fun _ _ _ h => h) (Or.inl ⟨by rfl, ?hy13⟩) (by assumption) ?rest13
        case hy13 => (intro w' ss; (try dsimp only at ss); go_simp; first | done | with_reducible rfl)
        try simp only [Act.put, List.setIfInBounds_toArray, List.set_cons_zero, List.set_cons_succ]
        refine wpAnyH_done (by kernel_rfl) ?_ _
        refine NoPanic.normal ?_
        have hx1 : (xs ++ ys).length = m + q := by rw [List.length_append, HX.out, hq]
        rw [HX.out] at h3 ⊢
        have H3 := Lib.hid h3
        clear h3 hr0 hS hHeld sq kq
        go_wp2
        go_roundw
        case rel => exact ⟨k + 1, A3, m + q, c3, _, by go_num, by first | rfl | rw [HX.out], by omega, by omega, hx1, H3.out, HE.out⟩
        case measure => simp [intOf]; omega
      · obtain rfl : k = n2 := by omega
        have HE2 := Lib.hid (show xs = R by rw [← HE.out, List.drop_of_length_le (by have := N2.out; omega)]; simp [meetF])
        go_wp2
        go_ret
        exact .of HE2.out HX.out HW.out
  · have E := Lib.hid (show meet l1 l2 = [] by rw [meet, if_neg (by simpa using hr)])
    cases hr1 : right l1 with
    | false =>
      have RA1 := Lib.hid (RA.out _ hr1)
      clear h1 h2 hb1 hb2 hr hr1 RA RB
      go_enter Try.func76, Try.ntmps76
      go_wp2_with (go_at_call 73; (with_reducible refine (RA1.out _ (Since.refl _)).mono ?_); rintro e w1 ⟨rfl, k1⟩)
      go_ret
      exact .none E.out k1
    | true =>
      have hr2 : right l2 = false := by cases h : right l2; rfl; exact absurd ⟨hr1, h⟩ hr
      have RA1 := Lib.hid (RA.out _ hr1)
      have RB1 := Lib.hid (RB.out _ hr2)
      clear h1 h2 hb1 hb2 hr hr1 hr2 RA RB
      go_enter Try.func76, Try.ntmps76
      go_wp2_with (first
        | (go_at_call 73; (with_reducible refine (RA1.out _ (Since.refl _)).mono ?_); rintro e w1 ⟨rfl, k1⟩)
        | (go_at_call 73; (with_reducible refine (RB1.out _ k1).mono ?_); rintro e w2 ⟨rfl, k2⟩))
      go_ret
      exact .none E.out (k1.trans k2)
theorem rmeet_any (v1 v2 : Value) (l1 l2 : List Rn) (w : World) (h1 : Sl 2 QR w v1 l1) (h2 : Sl 2 QR w v2 l2) (hl1 : l1.length ≤ 1100000) (hl2 : l2.length ≤ 1100000) (hb1 : Bd l1) (hb2 : Bd l2) :
    Calls Try.prog 76 #[v1, v2] w (RetS (meet l1 l2) w) := (rmeet_new v1 v2 l1 l2 w h1 h2 hl1 hl2 hb1 hb2).mono fun _ _ h => h.s
end Go.Proofs.Ytilgmkhcpmegjaa.Zs
end
section
namespace Go.Proofs.Ytilgmkhcpmegjaa.Ev
open Go.RowKit
open Go.Proofs.Ytilgmkhcpmegjaa.Dig Go.Proofs.Ytilgmkhcpmegjaa.Lx Go.Proofs.Ytilgmkhcpmegjaa.Tk Go.Proofs.Ytilgmkhcpmegjaa.Ti Go.Proofs.Ytilgmkhcpmegjaa.Zs Go.Proofs.Ytilgmkhcpmegjaa.Tr Go.Proofs.Ytilgmkhcpmegjaa.Sn Go.Proofs.Ytilgmkhcpmegjaa.Ln
set_option maxRecDepth 20000 in
set_option maxHeartbeats 3000000 in
theorem boxes_any (v : Value) (ds : Ln.Ds) (w : World) (h : Sl 1 QD w v ds) (hl : ds.length ≤ 1000) (hG : Gd ds) :
    Calls Try.prog 74 #[v, .int .i64 400] w (fun e w' => ∃ n, e = .returned (.int .i64 n) ∧ (n ≤ 400 → prodF ds ≤ 400) ∧ Since w w') := by
  obtain ⟨A, c, rfl⟩ := h.form
  obtain ⟨nd, hn⟩ : ∃ n, n = List.length ds := ⟨_, rfl⟩
  rw [← hn] at h hl ⊢
  have H := Lib.hid h
  have HN := Lib.hid hn
  have HG := Lib.hid hG
  clear h hn hG
  go_enter Try.func74, Try.ntmps74
  go_wp2
  go_loopw [5, 6] (fun n i wr => ∃ (k : Nat) (N : Int), i = .int .i64 (k : Int) ∧ n = .int .i64 N ∧ k ≤ nd ∧ 1 ≤ N ∧ N ≤ 400 ∧ Hid (N = prodF (ds.take k)) ∧ Hid (Since w wr)) (fun _ i _ => nd - (intOf i).toNat)
  case atStart => exact ⟨0, 1, rfl, rfl, Nat.zero_le _, by omega, by omega, Lib.hid rfl, Lib.hid (Since.refl _)⟩
  case round =>
    obtain ⟨k, N, rfl, rfl, hk, hN1, hN2, HP, HW⟩ := hrel
    by_cases hkn : k < nd
    · have hkl : k < ds.length := by have := HN.out; omega
      obtain ⟨g, o, B, cB, rfl, hS, e0⟩ := elD (H.out.since stD HW.out) hkl
      have hg := HG.out _ (List.getElem_mem hkl)
      obtain ⟨s1, s2⟩ := size_pos hg.1 hg.2
      have SZ := Lib.hid (fun W (k' : Since wr W) => rsize_any _ ds[k] W (hS.since stR k') (right_len hg.1) (okF_bd hg.1 (Int.le_refl _)))
      have PS := Lib.hid (show prodF (ds.take (k + 1)) = prodF (ds.take k) * size ds[k] by rw [List.take_succ_eq_append_getElem hkl, prod_snoc])
      generalize ds[k].length = dl at *
      generalize size ds[k] = s at *
      have hpos : 1 ≤ N * s := Int.mul_pos (show 0 < N by omega) (show 0 < s by omega)
      obtain ⟨p1, p2⟩ := prod_le (d := N) (s := 400) (by omega) (by omega)
      clear hS hg hkl
      by_cases c1 : s > 400
      · clear hpos p1 p2
        go_wp2_with (go_at_call 137; (with_reducible refine (SZ.out _ (Since.refl _)).mono ?_); rintro e w2 ⟨rfl, k2⟩; have K2 := Lib.hid k2; clear k2)
        go_ret
        exact ⟨401, by first | rfl | simp, by omega, HW.out.trans K2.out⟩
      · have hb := prod_le (d := N) (s := s) (by omega) (by omega)
        have WP : IntKind.i64.wrap (N * s) = N * s := wrap_id' (by omega) (by omega)
        by_cases c2 : N * s > 400
        · go_wp2_with (go_at_call 137; (with_reducible refine (SZ.out _ (Since.refl _)).mono ?_); rintro e w2 ⟨rfl, k2⟩; have K2 := Lib.hid k2; clear k2)
          go_ret
          exact ⟨401, by first | rfl | simp, by omega, HW.out.trans K2.out⟩
        · go_wp2_with (go_at_call 137; (with_reducible refine (SZ.out _ (Since.refl _)).mono ?_); rintro e w2 ⟨rfl, k2⟩; have K2 := Lib.hid k2; clear k2)
          go_roundw
          case rel => exact ⟨k + 1, N * s, by go_num, by first | rfl | simp [WP], by omega, hpos, by omega, Lib.hid (by rw [PS.out, ← HP.out]), Lib.hid (HW.out.trans K2.out)⟩
          case measure => simp [intOf]; omega
    · obtain rfl : k = nd := by omega
      have HE := Lib.hid (show N = prodF ds by rw [HP.out, List.take_of_length_le (by have := HN.out; omega)])
      go_wp2
      go_ret
      exact ⟨N, rfl, fun h => by rw [← HE.out]; exact h, HW.out⟩
set_option maxRecDepth 20000 in
set_option maxHeartbeats 3000000 in
theorem few_any (v : Value) (ds : Ln.Ds) (w : World) (h : Sl 1 QD w v ds) (hl : ds.length ≤ 1000) (hdl : ∀ d ∈ ds, d.length ≤ 1100000 ∧ Bd d) :
    Calls Try.prog 20 #[v] w (fun e w' => ∃ b, e = .returned (.bool b) ∧ (b = true → Gd ds ∧ prodF ds ≤ 400) ∧ Since w w') := by
  obtain ⟨A, c, rfl⟩ := h.form
  have BO := Lib.hid (fun W (k : Since w W) (hG : Gd ds) => boxes_any _ ds W (h.since stD k) hl hG)
  obtain ⟨nd, hn⟩ : ∃ n, n = List.length ds := ⟨_, rfl⟩
  rw [← hn] at h hl BO ⊢
  have H := Lib.hid h
  have HN := Lib.hid hn
  have HD := Lib.hid hdl
  clear h hn hdl
  go_enter Try.func20, Try.ntmps20
  go_wp2
  go_loopw [7] (fun i wr => ∃ (k : Nat), i = .int .i64 (k : Int) ∧ k ≤ nd ∧ Hid (∀ d ∈ ds.take k, right d = true ∧ d ≠ []) ∧ Hid (Since w wr)) (fun i _ => nd - (intOf i).toNat)
  case atStart => exact ⟨0, rfl, Nat.zero_le _, Lib.hid (by simp), Lib.hid (Since.refl _)⟩
  case round =>
    obtain ⟨k, rfl, hk, HF, HW⟩ := hrel
    by_cases hkn : k < nd
    · have hkl : k < ds.length := by have := HN.out; omega
      obtain ⟨g, o, B, cB, rfl, hS, e0⟩ := elD (H.out.since stD HW.out) hkl
      have hd := HD.out _ (List.getElem_mem hkl)
      have SN := Lib.hid (fun (h1 : right ds[k] = true) (h2 : ds[k] ≠ []) => show ∀ d ∈ ds.take (k + 1), right d = true ∧ d ≠ [] by
        intro d hd
        rw [List.take_succ_eq_append_getElem hkl, List.mem_append] at hd
        rcases hd with hd | hd
        · exact HF.out d hd
        · rw [List.mem_singleton.1 hd]; exact ⟨h1, h2⟩)
      have RR := Lib.hid (fun W (k' : Since wr W) => rright_any _ ds[k] W (hS.since stR k') hd.1 hd.2)
      generalize ds[k] = d at *
      obtain ⟨dl, hdl⟩ : ∃ n, n = d.length := ⟨_, rfl⟩
      have HDL := Lib.hid hdl
      rw [← hdl] at hS e0 hd RR
      clear hS hkl hdl
      by_cases c1 : dl = 0
      · subst c1
        clear hd
        go_wp2
        go_ret
        exact ⟨false, rfl, (fun h => by cases h), HW.out⟩
      · cases hr : right d with
        | false =>
          rw [hr] at RR
          clear hr hd SN
          go_wp2_with (go_at_call 73; (with_reducible refine (RR.out _ (Since.refl _)).mono ?_); rintro e w2 ⟨rfl, k2⟩; have K2 := Lib.hid k2; clear k2)
          go_ret
          exact ⟨false, rfl, (fun h => by cases h), HW.out.trans K2.out⟩
        | true =>
          rw [hr] at RR
          have SN2 := Lib.hid (SN.out hr (by intro e; subst e; exact c1 HDL.out))
          clear hr hd SN
          go_wp2_with (go_at_call 73; (with_reducible refine (RR.out _ (Since.refl _)).mono ?_); rintro e w2 ⟨rfl, k2⟩; have K2 := Lib.hid k2; clear k2)
          try simp only [show ((dl : Int) == 0) = false from beq_eq_false_iff_ne.2 (by omega)]
          go_roundw
          case rel => exact ⟨k + 1, by go_num, by omega, SN2, Lib.hid (HW.out.trans K2.out)⟩
          case measure => simp [intOf]; omega
    · obtain rfl : k = nd := by omega
      have hG : Gd ds := by
        have h := HF.out
        rwa [List.take_of_length_le (by have := HN.out; omega)] at h
      have BO2 := Lib.hid (fun W k => BO.out W k hG)
      have HG := Lib.hid hG
      clear hG BO
      go_wp2_with (go_at_call 74; (with_reducible refine (BO2.out _ HW.out).mono ?_); rintro e w2 ⟨n, rfl, hn, k2⟩; have K2 := Lib.hid (HW.out.trans k2); have HB := Lib.hid hn; clear k2 hn)
      go_ret
      exact ⟨decide (n ≤ 400), rfl, fun h => ⟨HG.out, HB.out (of_decide_eq_true h)⟩, K2.out⟩
theorem few2_any (v : Value) (ds : Ln.Ds) (w : World) (h : Sl 1 QD w v ds) (hl : ds.length ≤ 1000) (hdl : ∀ d ∈ ds, d.length ≤ 1100000 ∧ Bd d) :
    Calls Try.prog 20 #[v] w (fun e w' => (e = .returned (.bool false) ∧ Since w w') ∨ (e = .returned (.bool true) ∧ prodF ds ≤ 400 ∧ Since w w')) :=
  (few_any v ds w h hl hdl).mono fun e w' ⟨b, h1, h2, h3⟩ => by
    cases b with
    | false => exact .inl ⟨h1, h3⟩
    | true => exact .inr ⟨h1, (h2 rfl).2, h3⟩
end Go.Proofs.Ytilgmkhcpmegjaa.Ev
end
