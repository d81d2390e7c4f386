/- Layers 11, 12: the document's own Boxes; the law's Few. Layer 10 (trail): law 8's comparison of lists of domai -/
import Derived.Test.YtalcgjkegohhgaaQbl
import Derived.Test.YtalcgjkegohhgaaQbe
set_option linter.unusedVariables false
set_option linter.unusedSimpArgs false
section
namespace Go.Proofs.Ytalcgjkegohhgaa.Ev
open Go.RowKit
open Go.Proofs.Ytalcgjkegohhgaa.Dig Go.Proofs.Ytalcgjkegohhgaa.Lx Go.Proofs.Ytalcgjkegohhgaa.Tk Go.Proofs.Ytalcgjkegohhgaa.Ti Go.Proofs.Ytalcgjkegohhgaa.Zs Go.Proofs.Ytalcgjkegohhgaa.Tr Go.Proofs.Ytalcgjkegohhgaa.Sn Go.Proofs.Ytalcgjkegohhgaa.Ln
set_option maxRecDepth 20000 in
set_option maxHeartbeats 3000000 in
theorem boxes_any (v : Value) (ds : Ln.Ds) (w : World) (h : Sl 1 QD w v ds) (hl : ds.length ≤ 1000) (hG : Gd ds) :
    Calls Try.prog 88 #[v, .int .i64 400] w (fun e w' => ∃ n, e = .returned (.int .i64 n) ∧ (n ≤ 400 → prodF ds ≤ 400) ∧ Since w w') := by
  obtain ⟨A, c, rfl⟩ := h.form
  obtain ⟨nd, hn⟩ : ∃ n, n = List.length ds := ⟨_, rfl⟩
  rw [← hn] at h hl ⊢
  have H := Lib.hid h
  have HN := Lib.hid hn
  have HG := Lib.hid hG
  clear h hn hG
  go_enter Try.func88, Try.ntmps88
  go_wp2
  go_loopw [5, 6] (fun n i wr => ∃ (k : Nat) (N : Int), i = .int .i64 (k : Int) ∧ n = .int .i64 N ∧ k ≤ nd ∧ 1 ≤ N ∧ N ≤ 400 ∧ Hid (N = prodF (ds.take k)) ∧ Hid (Since w wr)) (fun _ i _ => nd - (intOf i).toNat)
  case atStart => exact ⟨0, 1, rfl, rfl, Nat.zero_le _, by omega, by omega, Lib.hid rfl, Lib.hid (Since.refl _)⟩
  case round =>
    obtain ⟨k, N, rfl, rfl, hk, hN1, hN2, HP, HW⟩ := hrel
    by_cases hkn : k < nd
    · have hkl : k < ds.length := by have := HN.out; omega
      obtain ⟨g, o, B, cB, rfl, hS, e0⟩ := elD (H.out.since stD HW.out) hkl
      have hg := HG.out _ (List.getElem_mem hkl)
      obtain ⟨s1, s2⟩ := size_pos hg.1 hg.2
      have SZ := Lib.hid (fun W (k' : Since wr W) => rsize_any _ ds[k] W (hS.since stR k') (right_len hg.1) (okF_bd hg.1 (Int.le_refl _)))
      have PS := Lib.hid (show prodF (ds.take (k + 1)) = prodF (ds.take k) * size ds[k] by rw [List.take_succ_eq_append_getElem hkl, prod_snoc])
      generalize ds[k].length = dl at *
      generalize size ds[k] = s at *
      have hpos : 1 ≤ N * s := Int.mul_pos (show 0 < N by omega) (show 0 < s by omega)
      obtain ⟨p1, p2⟩ := prod_le (d := N) (s := 400) (by omega) (by omega)
      clear hS hg hkl
      by_cases c1 : s > 400
      · clear hpos p1 p2
        go_wp2_with (go_at_call 135; (with_reducible refine (SZ.out _ (Since.refl _)).mono ?_); rintro e w2 ⟨rfl, k2⟩; have K2 := Lib.hid k2; clear k2)
        go_ret
        exact ⟨401, by first | rfl | simp, by omega, HW.out.trans K2.out⟩
      · have hb := prod_le (d := N) (s := s) (by omega) (by omega)
        have WP : IntKind.i64.wrap (N * s) = N * s := wrap_id' (by omega) (by omega)
        by_cases c2 : N * s > 400
        · go_wp2_with (go_at_call 135; (with_reducible refine (SZ.out _ (Since.refl _)).mono ?_); rintro e w2 ⟨rfl, k2⟩; have K2 := Lib.hid k2; clear k2)
          go_ret
          exact ⟨401, by first | rfl | simp, by omega, HW.out.trans K2.out⟩
        · go_wp2_with (go_at_call 135; (with_reducible refine (SZ.out _ (Since.refl _)).mono ?_); rintro e w2 ⟨rfl, k2⟩; have K2 := Lib.hid k2; clear k2)
          go_roundw
          case rel => exact ⟨k + 1, N * s, by go_num, by first | rfl | simp [WP], by omega, hpos, by omega, Lib.hid (by rw [PS.out, ← HP.out]), Lib.hid (HW.out.trans K2.out)⟩
          case measure => simp [intOf]; omega
    · obtain rfl : k = nd := by omega
      have HE := Lib.hid (show N = prodF ds by rw [HP.out, List.take_of_length_le (by have := HN.out; omega)])
      go_wp2
      go_ret
      exact ⟨N, rfl, fun h => by rw [← HE.out]; exact h, HW.out⟩
set_option maxRecDepth 20000 in
set_option maxHeartbeats 3000000 in
theorem few_any (v : Value) (ds : Ln.Ds) (w : World) (h : Sl 1 QD w v ds) (hl : ds.length ≤ 1000) (hdl : ∀ d ∈ ds, d.length ≤ 1100000 ∧ Bd d) :
    Calls Try.prog 47 #[v] w (fun e w' => ∃ b, e = .returned (.bool b) ∧ (b = true → Gd ds ∧ prodF ds ≤ 400) ∧ Since w w') := by
  obtain ⟨A, c, rfl⟩ := h.form
  have BO := Lib.hid (fun W (k : Since w W) (hG : Gd ds) => boxes_any _ ds W (h.since stD k) hl hG)
  obtain ⟨nd, hn⟩ : ∃ n, n = List.length ds := ⟨_, rfl⟩
  rw [← hn] at h hl BO ⊢
  have H := Lib.hid h
  have HN := Lib.hid hn
  have HD := Lib.hid hdl
  clear h hn hdl
  go_enter Try.func47, Try.ntmps47
  go_wp2
  go_loopw [7] (fun i wr => ∃ (k : Nat), i = .int .i64 (k : Int) ∧ k ≤ nd ∧ Hid (∀ d ∈ ds.take k, right d = true ∧ d ≠ []) ∧ Hid (Since w wr)) (fun i _ => nd - (intOf i).toNat)
  case atStart => exact ⟨0, rfl, Nat.zero_le _, Lib.hid (by simp), Lib.hid (Since.refl _)⟩
  case round =>
    obtain ⟨k, rfl, hk, HF, HW⟩ := hrel
    by_cases hkn : k < nd
    · have hkl : k < ds.length := by have := HN.out; omega
      obtain ⟨g, o, B, cB, rfl, hS, e0⟩ := elD (H.out.since stD HW.out) hkl
      have hd := HD.out _ (List.getElem_mem hkl)
      have SN := Lib.hid (fun (h1 : right ds[k] = true) (h2 : ds[k] ≠ []) => show ∀ d ∈ ds.take (k + 1), right d = true ∧ d ≠ [] by
        intro d hd
        rw [List.take_succ_eq_append_getElem hkl, List.mem_append] at hd
        rcases hd with hd | hd
        · exact HF.out d hd
        · rw [List.mem_singleton.1 hd]; exact ⟨h1, h2⟩)
      have RR := Lib.hid (fun W (k' : Since wr W) => rright_any _ ds[k] W (hS.since stR k') hd.1 hd.2)
      generalize ds[k] = d at *
      obtain ⟨dl, hdl⟩ : ∃ n, n = d.length := ⟨_, rfl⟩
      have HDL := Lib.hid hdl
      rw [← hdl] at hS e0 hd RR
      clear hS hkl hdl
      by_cases c1 : dl = 0
      · subst c1
        clear hd
        go_wp2
        go_ret
        exact ⟨false, rfl, (fun h => by cases h), HW.out⟩
      · cases hr : right d with
        | false =>
          rw [hr] at RR
          clear hr hd SN
          go_wp2_with (go_at_call 60; (with_reducible refine (RR.out _ (Since.refl _)).mono ?_); rintro e w2 ⟨rfl, k2⟩; have K2 := Lib.hid k2; clear k2)
          go_ret
          exact ⟨false, rfl, (fun h => by cases h), HW.out.trans K2.out⟩
        | true =>
          rw [hr] at RR
          have SN2 := Lib.hid (SN.out hr (by intro e; subst e; exact c1 HDL.out))
          clear hr hd SN
          go_wp2_with (go_at_call 60; (with_reducible refine (RR.out _ (Since.refl _)).mono ?_); rintro e w2 ⟨rfl, k2⟩; have K2 := Lib.hid k2; clear k2)
          try simp only [show ((dl : Int) == 0) = false from beq_eq_false_iff_ne.2 (by omega)]
          go_roundw
          case rel => exact ⟨k + 1, by go_num, by omega, SN2, Lib.hid (HW.out.trans K2.out)⟩
          case measure => simp [intOf]; omega
    · obtain rfl : k = nd := by omega
      have hG : Gd ds := by
        have h := HF.out
        rwa [List.take_of_length_le (by have := HN.out; omega)] at h
      have BO2 := Lib.hid (fun W k => BO.out W k hG)
      have HG := Lib.hid hG
      clear hG BO
      go_wp2_with (go_at_call 88; (with_reducible refine (BO2.out _ HW.out).mono ?_); rintro e w2 ⟨n, rfl, hn, k2⟩; have K2 := Lib.hid (HW.out.trans k2); have HB := Lib.hid hn; clear k2 hn)
      go_ret
      exact ⟨decide (n ≤ 400), rfl, fun h => ⟨HG.out, HB.out (of_decide_eq_true h)⟩, K2.out⟩
theorem few2_any (v : Value) (ds : Ln.Ds) (w : World) (h : Sl 1 QD w v ds) (hl : ds.length ≤ 1000) (hdl : ∀ d ∈ ds, d.length ≤ 1100000 ∧ Bd d) :
    Calls Try.prog 47 #[v] w (fun e w' => (e = .returned (.bool false) ∧ Since w w') ∨ (e = .returned (.bool true) ∧ prodF ds ≤ 400 ∧ Since w w')) :=
  (few_any v ds w h hl hdl).mono fun e w' ⟨b, h1, h2, h3⟩ => by
    cases b with
    | false => exact .inl ⟨h1, h3⟩
    | true => exact .inr ⟨h1, (h2 rfl).2, h3⟩
end Go.Proofs.Ytalcgjkegohhgaa.Ev
end
section
namespace Go.Proofs.Ytalcgjkegohhgaa.Tr
open Go.RowKit
open Go.Proofs.Ytalcgjkegohhgaa.Dig Go.Proofs.Ytalcgjkegohhgaa.Lx Go.Proofs.Ytalcgjkegohhgaa.Tk Go.Proofs.Ytalcgjkegohhgaa.Ti Go.Proofs.Ytalcgjkegohhgaa.Zs
set_option maxRecDepth 20000 in
set_option maxHeartbeats 2000000 in
theorem doms_any (v1 v2 : Value) (xs ys : Ds) (w : World) (h1 : Sl 1 QD w v1 xs) (h2 : Sl 1 QD w v2 ys) (hl : xs.length ≤ 100000) (hl2 : ys.length ≤ 100000) (hb : ∀ d ∈ ys, d.length ≤ 1100000) :
    Calls Try.prog 27 #[v1, v2] w (RetT (decide (xs = ys)) w) := by
  obtain ⟨A1, c1, rfl⟩ := h1.form
  obtain ⟨A2, c2, rfl⟩ := h2.form
  obtain ⟨n, hn⟩ : ∃ n, n = xs.length := ⟨_, rfl⟩
  obtain ⟨m, hm⟩ : ∃ m, m = ys.length := ⟨_, rfl⟩
  obtain ⟨R, hR⟩ : ∃ R, R = decide (xs = ys) := ⟨_, rfl⟩
  rw [← hR]
  rw [← hn] at h1 hl ⊢
  rw [← hm] at h2 hl2 ⊢
  have H1 := Lib.hid h1
  have H2 := Lib.hid h2
  have HN := Lib.hid hn
  have HM := Lib.hid hm
  have HR := Lib.hid hR
  have HB := Lib.hid hb
  clear h1 h2 hn hm hR hb
  by_cases hnm : n = m
  · subst hnm
    clear hl2
    go_enter Try.func27, Try.ntmps27
    go_wp2
    go_loopw [13] (fun i wr => ∃ k : Nat, i = .int .i64 (k : Int) ∧ k ≤ n ∧ Hid (xs.take k = ys.take k) ∧ Hid (Since w wr)) (fun i _ => n - (intOf i).toNat)
    case atStart => exact ⟨0, rfl, Nat.zero_le _, rfl, Since.refl _⟩
    case round =>
      obtain ⟨k, rfl, hk, HE, HW⟩ := hrel
      by_cases hkn : k < n
      · have hk1 : k < xs.length := by have := HN.out; omega
        have hk2 : k < ys.length := by have := HM.out; omega
        obtain ⟨g, o, B1, d1, rfl, S1, e0⟩ := elD (H1.out.since stD HW.out) hk1
        obtain ⟨g2, o2, B2, d2, rfl, S2, e1⟩ := elD (H2.out.since stD HW.out) hk2
        have HC := Lib.hid (fun W (kk : Since wr W) => (show W.cell? ⟨g, o + k, none⟩ = _ ∧ W.cell? ⟨g2, o2 + k, none⟩ = _ from ⟨(kk.cell _ (World.block_lt_of_cell? _ _ e0)).trans e0, (kk.cell _ (World.block_lt_of_cell? _ _ e1)).trans e1⟩))
        have t1 := List.take_succ_eq_append_getElem hk1
        have t2 := List.take_succ_eq_append_getElem hk2
        have hno := Lib.hid (fun (hne : xs[k] ≠ ys[k]) => show false = R by
          rw [HR.out, decide_eq_false]; intro e; subst e; exact hne rfl)
        have hyl := HB.out _ (List.getElem_mem hk2)
        generalize xs[k] = y at *
        generalize ys[k] = z at *
        have RR0 := Lib.hid (fun b (hb : decide (y = z) = b) W (kk : Since wr W) => by
          have := ranges_any _ _ y z W (S1.since stR kk) (S2.since stR kk) hyl
          rw [hb] at this; exact this)
        obtain ⟨p1, hp1⟩ : ∃ p, p = y.length := ⟨_, rfl⟩
        obtain ⟨p2, hp2⟩ : ∃ p, p = z.length := ⟨_, rfl⟩
        rw [← hp1] at HC RR0
        rw [← hp2] at HC RR0
        have T1 := Lib.hid t1
        have T2 := Lib.hid t2
        clear t1 t2 hk1 hk2 S1 S2 e0 e1 hyl hp1 hp2
        by_cases hyz : y = z
        · have RR := Lib.hid (RR0.out true (decide_eq_true hyz))
          subst hyz
          clear RR0 hno
          go_wp2
          have hr0 : Since wr wr.drew := Since.drew (Since.refl wr)
          refine wp_region_noPanic ?_
          refine Reg.wp_region_G (S := fun _ => True) (fun j => [8, 9].contains j) (by kernel_rfl) trivial ?_
          refine' Reg.tk3 (i := 0) (v := _) (some 16) [2, 3, 8, 9] [8, 9] rfl (Or.inl ⟨by rfl, Or.inl ?hy1⟩) ?rest1
          case hy1 => (intro w' kk ss; obtain ⟨x0, x1⟩ := HC.out _ (hr0.trans kk); go_simp; first | done | with_reducible rfl)
          try simp only [Act.put, List.setIfInBounds_toArray, List.set_cons_zero, List.set_cons_succ]
          refine' Reg.tk3 (i := 1) (v := _) (some 17) [2, 3, 8, 9] [8, 9] rfl (Or.inl ⟨by rfl, Or.inl ?hy2⟩) ?rest2
          case hy2 => (intro w' kk ss; obtain ⟨x0, x1⟩ := HC.out _ (hr0.trans kk); go_simp; first | done | with_reducible rfl)
          try simp only [Act.put, List.setIfInBounds_toArray, List.set_cons_zero, List.set_cons_succ]
          refine' Reg.tk3 (i := 2) (v := _) (some 18) [3, 8, 9] [8, 9] rfl (Or.inl ⟨by rfl, Or.inl ?hy3⟩) ?rest3
          case hy3 => (intro w' kk ss; obtain ⟨x0, x1⟩ := HC.out _ (hr0.trans kk); go_simp; first | done | with_reducible rfl)
          try simp only [Act.put, List.setIfInBounds_toArray, List.set_cons_zero, List.set_cons_succ]
          refine' Reg.tk3 (i := 3) (v := _) (some 19) [8, 9] [8, 9] rfl (Or.inl ⟨by rfl, Or.inl ?hy4⟩) ?rest4
          case hy4 => (intro w' kk ss; obtain ⟨x0, x1⟩ := HC.out _ (hr0.trans kk); go_simp; first | done | with_reducible rfl)
          try simp only [Act.put, List.setIfInBounds_toArray, List.set_cons_zero, List.set_cons_succ]
          refine' Reg.tk3 (i := 4) (v := _) (some 20) [6, 7, 8, 9] [8, 9] rfl (Or.inl ⟨by rfl, Or.inl ?hy5⟩) ?rest5
          case hy5 => (intro w' kk ss; obtain ⟨x0, x1⟩ := HC.out _ (hr0.trans kk); go_simp; first | done | with_reducible rfl)
          try simp only [Act.put, List.setIfInBounds_toArray, List.set_cons_zero, List.set_cons_succ]
          refine' Reg.tk3 (i := 5) (v := _) (some 21) [6, 7, 8, 9] [8, 9] rfl (Or.inl ⟨by rfl, Or.inl ?hy6⟩) ?rest6
          case hy6 => (intro w' kk ss; obtain ⟨x0, x1⟩ := HC.out _ (hr0.trans kk); go_simp; first | done | with_reducible rfl)
          try simp only [Act.put, List.setIfInBounds_toArray, List.set_cons_zero, List.set_cons_succ]
          refine' Reg.tk3 (i := 6) (v := _) (some 22) [7, 8, 9] [8, 9] rfl (Or.inl ⟨by rfl, Or.inl ?hy7⟩) ?rest7
          case hy7 => (intro w' kk ss; obtain ⟨x0, x1⟩ := HC.out _ (hr0.trans kk); go_simp; first | done | with_reducible rfl)
          try simp only [Act.put, List.setIfInBounds_toArray, List.set_cons_zero, List.set_cons_succ]
          refine' Reg.tk3 (i := 7) (v := _) (some 23) [8, 9] [8, 9] rfl (Or.inl ⟨by rfl, Or.inl ?hy8⟩) ?rest8
          case hy8 => (intro w' kk ss; obtain ⟨x0, x1⟩ := HC.out _ (hr0.trans kk); go_simp; first | done | with_reducible rfl)
          try simp only [Act.put, List.setIfInBounds_toArray, List.set_cons_zero, List.set_cons_succ]
          refine Reg.wpG_ready (rs := [8]) (by kernel_rfl) (by simp) (fun wq kq sq => ?_)
          have hr0 := hr0.trans kq
          refine Reg.AllG.last (o := { dst := some 24, op := Op.call { callee := Callee.value (Operand.func 31), args := #[Operand.tmp 19, Operand.tmp 23], argTypes := #[33, 33] }, type := 4, pos := "law.go:64", after := #[{ on := 3, ground := Ground.data }, { on := 7, ground := Ground.data }], guard := none }) rfl (by rfl) (fun K hK => ?_) Reg.AllG.nil
          go_simp
          (with_reducible refine (RR.out wq hr0).mono ?_)
          rintro e yw ⟨rfl, k9⟩
          refine hK.out _ _ trivial (fun hHeld => ?_)
          clear hK K
          try simp only [Act.put, List.setIfInBounds_toArray, List.set_cons_zero, List.set_cons_succ]
          refine' Reg.ah3 (i := 9) (v := _) (some 25) rfl (by kernel_rfl) (by kernel_rfl) (by kernel_rfl) (fun _ _ _ h => h) (Or.inl ⟨by rfl, ?hy9⟩) (by assumption) ?rest9
          case hy9 => (intro w' ss; (try dsimp only at ss); go_simp; first | done | with_reducible rfl)
          try simp only [Act.put, List.setIfInBounds_toArray, List.set_cons_zero, List.set_cons_succ]
          refine wpAnyH_done (by kernel_rfl) ?_ _
          refine NoPanic.normal ?_
          have hr0' := Lib.hid hr0
          clear hr0 hHeld
          go_wp2
          go_roundw
          case rel => exact ⟨k + 1, by go_num, by omega, Lib.hid (by rw [T1.out, T2.out, HE.out]), HW.out.trans (hr0'.out.trans k9)⟩
          case measure => simp [intOf]; omega
        · have RR := Lib.hid (RR0.out false (decide_eq_false hyz))
          have HX := Lib.hid (hno.out hyz)
          clear hno RR0
          go_wp2
          have hr0 : Since wr wr.drew := Since.drew (Since.refl wr)
          refine wp_region_noPanic ?_
          refine Reg.wp_region_G (S := fun _ => True) (fun j => [8, 9].contains j) (by kernel_rfl) trivial ?_
          refine' Reg.tk3 (i := 0) (v := _) (some 16) [2, 3, 8, 9] [8, 9] rfl (Or.inl ⟨by rfl, Or.inl ?hyN1⟩) ?restN1
          case hyN1 => (intro w' kk ss; obtain ⟨x0, x1⟩ := HC.out _ (hr0.trans kk); go_simp; first | done | with_reducible rfl)
          try simp only [Act.put, List.setIfInBounds_toArray, List.set_cons_zero, List.set_cons_succ]
          refine' Reg.tk3 (i := 1) (v := _) (some 17) [2, 3, 8, 9] [8, 9] rfl (Or.inl ⟨by rfl, Or.inl ?hyN2⟩) ?restN2
          case hyN2 => (intro w' kk ss; obtain ⟨x0, x1⟩ := HC.out _ (hr0.trans kk); go_simp; first | done | with_reducible rfl)
          try simp only [Act.put, List.setIfInBounds_toArray, List.set_cons_zero, List.set_cons_succ]
          refine' Reg.tk3 (i := 2) (v := _) (some 18) [3, 8, 9] [8, 9] rfl (Or.inl ⟨by rfl, Or.inl ?hyN3⟩) ?restN3
          case hyN3 => (intro w' kk ss; obtain ⟨x0, x1⟩ := HC.out _ (hr0.trans kk); go_simp; first | done | with_reducible rfl)
          try simp only [Act.put, List.setIfInBounds_toArray, List.set_cons_zero, List.set_cons_succ]
          refine' Reg.tk3 (i := 3) (v := _) (some 19) [8, 9] [8, 9] rfl (Or.inl ⟨by rfl, Or.inl ?hyN4⟩) ?restN4
          case hyN4 => (intro w' kk ss; obtain ⟨x0, x1⟩ := HC.out _ (hr0.trans kk); go_simp; first | done | with_reducible rfl)
          try simp only [Act.put, List.setIfInBounds_toArray, List.set_cons_zero, List.set_cons_succ]
          refine' Reg.tk3 (i := 4) (v := _) (some 20) [6, 7, 8, 9] [8, 9] rfl (Or.inl ⟨by rfl, Or.inl ?hyN5⟩) ?restN5
          case hyN5 => (intro w' kk ss; obtain ⟨x0, x1⟩ := HC.out _ (hr0.trans kk); go_simp; first | done | with_reducible rfl)
          try simp only [Act.put, List.setIfInBounds_toArray, List.set_cons_zero, List.set_cons_succ]
          refine' Reg.tk3 (i := 5) (v := _) (some 21) [6, 7, 8, 9] [8, 9] rfl (Or.inl ⟨by rfl, Or.inl ?hyN6⟩) ?restN6
          case hyN6 => (intro w' kk ss; obtain ⟨x0, x1⟩ := HC.out _ (hr0.trans kk); go_simp; first | done | with_reducible rfl)
          try simp only [Act.put, List.setIfInBounds_toArray, List.set_cons_zero, List.set_cons_succ]
          refine' Reg.tk3 (i := 6) (v := _) (some 22) [7, 8, 9] [8, 9] rfl (Or.inl ⟨by rfl, Or.inl ?hyN7⟩) ?restN7
          case hyN7 => (intro w' kk ss; obtain ⟨x0, x1⟩ := HC.out _ (hr0.trans kk); go_simp; first | done | with_reducible rfl)
          try simp only [Act.put, List.setIfInBounds_toArray, List.set_cons_zero, List.set_cons_succ]
          refine' Reg.tk3 (i := 7) (v := _) (some 23) [8, 9] [8, 9] rfl (Or.inl ⟨by rfl, Or.inl ?hyN8⟩) ?restN8
          case hyN8 => (intro w' kk ss; obtain ⟨x0, x1⟩ := HC.out _ (hr0.trans kk); go_simp; first | done | with_reducible rfl)
          try simp only [Act.put, List.setIfInBounds_toArray, List.set_cons_zero, List.set_cons_succ]
          refine Reg.wpG_ready (rs := [8]) (by kernel_rfl) (by simp) (fun wq kq sq => ?_)
          have hr0 := hr0.trans kq
          refine Reg.AllG.last (o := { dst := some 24, op := Op.call { callee := Callee.value (Operand.func 31), args := #[Operand.tmp 19, Operand.tmp 23], argTypes := #[33, 33] }, type := 4, pos := "law.go:64", after := #[{ on := 3, ground := Ground.data }, { on := 7, ground := Ground.data }], guard := none }) rfl (by rfl) (fun K hK => ?_) Reg.AllG.nil
          go_simp
          (with_reducible refine (RR.out wq hr0).mono ?_)
          rintro e yw ⟨rfl, k9⟩
          refine hK.out _ _ trivial (fun hHeld => ?_)
          clear hK K
          try simp only [Act.put, List.setIfInBounds_toArray, List.set_cons_zero, List.set_cons_succ]
          refine' Reg.ah3 (i := 9) (v := _) (some 25) rfl (by kernel_rfl) (by kernel_rfl) (by kernel_rfl) (fun _ _ _ h => h) (Or.inl ⟨by rfl, ?hyN9⟩) (by assumption) ?restN9
          case hyN9 => (intro w' ss; (try dsimp only at ss); go_simp; first | done | with_reducible rfl)
          try simp only [Act.put, List.setIfInBounds_toArray, List.set_cons_zero, List.set_cons_succ]
          refine wpAnyH_done (by kernel_rfl) ?_ _
          refine NoPanic.normal ?_
          have hr0' := Lib.hid hr0
          clear hr0 hHeld
          go_wp2
          go_ret
          exact .of HX.out (HW.out.trans (hr0'.out.trans k9))
      · obtain rfl : k = n := by omega
        have HX := Lib.hid (show true = R by
          have e := HE.out
          rw [List.take_of_length_le (by have := HN.out; omega), List.take_of_length_le (by have := HM.out; omega)] at e
          rw [HR.out, decide_eq_true e])
        go_wp2
        go_ret
        exact .of HX.out HW.out
  · have hb : ((n : Int) != (m : Int)) = true := by rw [bne_iff_ne]; omega
    have HX := Lib.hid (show false = R by
      rw [HR.out, decide_eq_false]; intro e; exact hnm (by rw [HN.out, HM.out, e]))
    go_enter Try.func27, Try.ntmps27
    go_wp2
    go_ret
    exact .of HX.out (Since.refl _)
end Go.Proofs.Ytalcgjkegohhgaa.Tr
end
