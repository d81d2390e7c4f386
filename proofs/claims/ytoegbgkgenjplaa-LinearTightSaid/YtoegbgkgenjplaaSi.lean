/- Layers 11, 12: the document's own Boxes; the law's Few. -/
import Derived.Test.YtoegbgkgenjplaaQbh
import Derived.Test.YtoegbgkgenjplaaEk
namespace Go.Proofs.Ytoegbgkgenjplaa.Ev
open Go.RowKit
set_option linter.unusedVariables false
set_option linter.unusedSimpArgs false
open Go.Proofs.Ytoegbgkgenjplaa.Dig Go.Proofs.Ytoegbgkgenjplaa.Lx Go.Proofs.Ytoegbgkgenjplaa.Tk Go.Proofs.Ytoegbgkgenjplaa.Ti Go.Proofs.Ytoegbgkgenjplaa.Zs Go.Proofs.Ytoegbgkgenjplaa.Tr Go.Proofs.Ytoegbgkgenjplaa.Sn Go.Proofs.Ytoegbgkgenjplaa.Ln
set_option maxRecDepth 20000 in
set_option maxHeartbeats 3000000 in
theorem boxes_any (v : Value) (ds : Ln.Ds) (w : World) (h : Sl 1 QD w v ds) (hl : ds.length ≤ 1000) (hG : Gd ds) :
    Calls Try.prog 58 #[v, .int .i64 400] w (fun e w' => ∃ n, e = .returned (.int .i64 n) ∧ (n ≤ 400 → prodF ds ≤ 400) ∧ Since w w') := by
  obtain ⟨A, c, rfl⟩ := h.form
  obtain ⟨nd, hn⟩ : ∃ n, n = List.length ds := ⟨_, rfl⟩
  rw [← hn] at h hl ⊢
  have H := Lib.hid h
  have HN := Lib.hid hn
  have HG := Lib.hid hG
  clear h hn hG
  go_enter Try.func58, Try.ntmps58
  go_wp2
  go_loopw [5, 6] (fun n i wr => ∃ (k : Nat) (N : Int), i = .int .i64 (k : Int) ∧ n = .int .i64 N ∧ k ≤ nd ∧ 1 ≤ N ∧ N ≤ 400 ∧ Hid (N = prodF (ds.take k)) ∧ Hid (Since w wr)) (fun _ i _ => nd - (intOf i).toNat)
  case atStart => exact ⟨0, 1, rfl, rfl, Nat.zero_le _, by omega, by omega, Lib.hid rfl, Lib.hid (Since.refl _)⟩
  case round =>
    obtain ⟨k, N, rfl, rfl, hk, hN1, hN2, HP, HW⟩ := hrel
    by_cases hkn : k < nd
    · have hkl : k < ds.length := by have := HN.out; omega
      obtain ⟨g, o, B, cB, rfl, hS, e0⟩ := elD (H.out.since stD HW.out) hkl
      have hg := HG.out _ (List.getElem_mem hkl)
      obtain ⟨s1, s2⟩ := size_pos hg.1 hg.2
      have SZ := Lib.hid (fun W (k' : Since wr W) => rsize_any _ ds[k] W (hS.since stR k') (right_len hg.1) (okF_bd hg.1 (Int.le_refl _)))
      have PS := Lib.hid (show prodF (ds.take (k + 1)) = prodF (ds.take k) * size ds[k] by rw [List.take_succ_eq_append_getElem hkl, prod_snoc])
      generalize ds[k].length = dl at *
      generalize size ds[k] = s at *
      have hpos : 1 ≤ N * s := Int.mul_pos (show 0 < N by omega) (show 0 < s by omega)
      obtain ⟨p1, p2⟩ := prod_le (d := N) (s := 400) (by omega) (by omega)
      clear hS hg hkl
      by_cases c1 : s > 400
      · clear hpos p1 p2
        go_wp2_with (go_at_call 96; (with_reducible refine (SZ.out _ (Since.refl _)).mono ?_); rintro e w2 ⟨rfl, k2⟩; have K2 := Lib.hid k2; clear k2)
        go_ret
        exact ⟨401, by first | rfl | simp, by omega, HW.out.trans K2.out⟩
      · have hb := prod_le (d := N) (s := s) (by omega) (by omega)
        have WP : IntKind.i64.wrap (N * s) = N * s := wrap_id' (by omega) (by omega)
        by_cases c2 : N * s > 400
        · go_wp2_with (go_at_call 96; (with_reducible refine (SZ.out _ (Since.refl _)).mono ?_); rintro e w2 ⟨rfl, k2⟩; have K2 := Lib.hid k2; clear k2)
          go_ret
          exact ⟨401, by first | rfl | simp, by omega, HW.out.trans K2.out⟩
        · go_wp2_with (go_at_call 96; (with_reducible refine (SZ.out _ (Since.refl _)).mono ?_); rintro e w2 ⟨rfl, k2⟩; have K2 := Lib.hid k2; clear k2)
          go_roundw
          case rel => exact ⟨k + 1, N * s, by go_num, by first | rfl | simp [WP], by omega, hpos, by omega, Lib.hid (by rw [PS.out, ← HP.out]), Lib.hid (HW.out.trans K2.out)⟩
          case measure => simp [intOf]; omega
    · obtain rfl : k = nd := by omega
      have HE := Lib.hid (show N = prodF ds by rw [HP.out, List.take_of_length_le (by have := HN.out; omega)])
      go_wp2
      go_ret
      exact ⟨N, rfl, fun h => by rw [← HE.out]; exact h, HW.out⟩
set_option maxRecDepth 20000 in
set_option maxHeartbeats 3000000 in
theorem few_any (v : Value) (ds : Ln.Ds) (w : World) (h : Sl 1 QD w v ds) (hl : ds.length ≤ 1000) (hdl : ∀ d ∈ ds, d.length ≤ 1100000 ∧ Bd d) :
    Calls Try.prog 25 #[v] w (fun e w' => ∃ b, e = .returned (.bool b) ∧ (b = true → Gd ds ∧ prodF ds ≤ 400) ∧ Since w w') := by
  obtain ⟨A, c, rfl⟩ := h.form
  have BO := Lib.hid (fun W (k : Since w W) (hG : Gd ds) => boxes_any _ ds W (h.since stD k) hl hG)
  obtain ⟨nd, hn⟩ : ∃ n, n = List.length ds := ⟨_, rfl⟩
  rw [← hn] at h hl BO ⊢
  have H := Lib.hid h
  have HN := Lib.hid hn
  have HD := Lib.hid hdl
  clear h hn hdl
  go_enter Try.func25, Try.ntmps25
  go_wp2
  go_loopw [7] (fun i wr => ∃ (k : Nat), i = .int .i64 (k : Int) ∧ k ≤ nd ∧ Hid (∀ d ∈ ds.take k, right d = true ∧ d ≠ []) ∧ Hid (Since w wr)) (fun i _ => nd - (intOf i).toNat)
  case atStart => exact ⟨0, rfl, Nat.zero_le _, Lib.hid (by simp), Lib.hid (Since.refl _)⟩
  case round =>
    obtain ⟨k, rfl, hk, HF, HW⟩ := hrel
    by_cases hkn : k < nd
    · have hkl : k < ds.length := by have := HN.out; omega
      obtain ⟨g, o, B, cB, rfl, hS, e0⟩ := elD (H.out.since stD HW.out) hkl
      have hd := HD.out _ (List.getElem_mem hkl)
      have SN := Lib.hid (fun (h1 : right ds[k] = true) (h2 : ds[k] ≠ []) => show ∀ d ∈ ds.take (k + 1), right d = true ∧ d ≠ [] by
        intro d hd
        rw [List.take_succ_eq_append_getElem hkl, List.mem_append] at hd
        rcases hd with hd | hd
        · exact HF.out d hd
        · rw [List.mem_singleton.1 hd]; exact ⟨h1, h2⟩)
      have RR := Lib.hid (fun W (k' : Since wr W) => rright_any _ ds[k] W (hS.since stR k') hd.1 hd.2)
      generalize ds[k] = d at *
      obtain ⟨dl, hdl⟩ : ∃ n, n = d.length := ⟨_, rfl⟩
      have HDL := Lib.hid hdl
      rw [← hdl] at hS e0 hd RR
      clear hS hkl hdl
      by_cases c1 : dl = 0
      · subst c1
        clear hd
        go_wp2
        go_ret
        exact ⟨false, rfl, (fun h => by cases h), HW.out⟩
      · cases hr : right d with
        | false =>
          rw [hr] at RR
          clear hr hd SN
          go_wp2_with (go_at_call 57; (with_reducible refine (RR.out _ (Since.refl _)).mono ?_); rintro e w2 ⟨rfl, k2⟩; have K2 := Lib.hid k2; clear k2)
          go_ret
          exact ⟨false, rfl, (fun h => by cases h), HW.out.trans K2.out⟩
        | true =>
          rw [hr] at RR
          have SN2 := Lib.hid (SN.out hr (by intro e; subst e; exact c1 HDL.out))
          clear hr hd SN
          go_wp2_with (go_at_call 57; (with_reducible refine (RR.out _ (Since.refl _)).mono ?_); rintro e w2 ⟨rfl, k2⟩; have K2 := Lib.hid k2; clear k2)
          try simp only [show ((dl : Int) == 0) = false from beq_eq_false_iff_ne.2 (by omega)]
          go_roundw
          case rel => exact ⟨k + 1, by go_num, by omega, SN2, Lib.hid (HW.out.trans K2.out)⟩
          case measure => simp [intOf]; omega
    · obtain rfl : k = nd := by omega
      have hG : Gd ds := by
        have h := HF.out
        rwa [List.take_of_length_le (by have := HN.out; omega)] at h
      have BO2 := Lib.hid (fun W k => BO.out W k hG)
      have HG := Lib.hid hG
      clear hG BO
      go_wp2_with (go_at_call 58; (with_reducible refine (BO2.out _ HW.out).mono ?_); rintro e w2 ⟨n, rfl, hn, k2⟩; have K2 := Lib.hid (HW.out.trans k2); have HB := Lib.hid hn; clear k2 hn)
      go_ret
      exact ⟨decide (n ≤ 400), rfl, fun h => ⟨HG.out, HB.out (of_decide_eq_true h)⟩, K2.out⟩
theorem few2_any (v : Value) (ds : Ln.Ds) (w : World) (h : Sl 1 QD w v ds) (hl : ds.length ≤ 1000) (hdl : ∀ d ∈ ds, d.length ≤ 1100000 ∧ Bd d) :
    Calls Try.prog 25 #[v] w (fun e w' => (e = .returned (.bool false) ∧ Since w w') ∨ (e = .returned (.bool true) ∧ prodF ds ≤ 400 ∧ Since w w')) :=
  (few_any v ds w h hl hdl).mono fun e w' ⟨b, h1, h2, h3⟩ => by
    cases b with
    | false => exact .inl ⟨h1, h3⟩
    | true => exact .inr ⟨h1, (h2 rfl).2, h3⟩
end Go.Proofs.Ytoegbgkgenjplaa.Ev
