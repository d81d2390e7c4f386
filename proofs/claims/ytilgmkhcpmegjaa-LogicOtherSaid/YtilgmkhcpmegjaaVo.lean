/- Layer 10 (trail): law 8's comparison of lists of domains. -/
import Derived.Test.YtilgmkhcpmegjaaQat
namespace Go.Proofs.Ytilgmkhcpmegjaa.Tr
open Go.RowKit
set_option linter.unusedVariables false
set_option linter.unusedSimpArgs false
open Go.Proofs.Ytilgmkhcpmegjaa.Dig Go.Proofs.Ytilgmkhcpmegjaa.Lx Go.Proofs.Ytilgmkhcpmegjaa.Tk Go.Proofs.Ytilgmkhcpmegjaa.Ti Go.Proofs.Ytilgmkhcpmegjaa.Zs
set_option maxRecDepth 20000 in
set_option maxHeartbeats 2000000 in
theorem doms_any (v1 v2 : Value) (xs ys : Ds) (w : World) (h1 : Sl 1 QD w v1 xs) (h2 : Sl 1 QD w v2 ys) (hl : xs.length ≤ 100000) (hl2 : ys.length ≤ 100000) (hb : ∀ d ∈ ys, d.length ≤ 1100000) :
    Calls Try.prog 19 #[v1, v2] w (RetT (decide (xs = ys)) w) := by
  obtain ⟨A1, c1, rfl⟩ := h1.form
  obtain ⟨A2, c2, rfl⟩ := h2.form
  obtain ⟨n, hn⟩ : ∃ n, n = xs.length := ⟨_, rfl⟩
  obtain ⟨m, hm⟩ : ∃ m, m = ys.length := ⟨_, rfl⟩
  obtain ⟨R, hR⟩ : ∃ R, R = decide (xs = ys) := ⟨_, rfl⟩
  rw [← hR]
  rw [← hn] at h1 hl ⊢
  rw [← hm] at h2 hl2 ⊢
  have H1 := Lib.hid h1
  have H2 := Lib.hid h2
  have HN := Lib.hid hn
  have HM := Lib.hid hm
  have HR := Lib.hid hR
  have HB := Lib.hid hb
  clear h1 h2 hn hm hR hb
  by_cases hnm : n = m
  · subst hnm
    clear hl2
    go_enter Try.func19, Try.ntmps19
    go_wp2
    go_loopw [13] (fun i wr => ∃ k : Nat, i = .int .i64 (k : Int) ∧ k ≤ n ∧ Hid (xs.take k = ys.take k) ∧ Hid (Since w wr)) (fun i _ => n - (intOf i).toNat)
    case atStart => exact ⟨0, rfl, Nat.zero_le _, rfl, Since.refl _⟩
    case round =>
      obtain ⟨k, rfl, hk, HE, HW⟩ := hrel
      by_cases hkn : k < n
      · have hk1 : k < xs.length := by have := HN.out; omega
        have hk2 : k < ys.length := by have := HM.out; omega
        obtain ⟨g, o, B1, d1, rfl, S1, e0⟩ := elD (H1.out.since stD HW.out) hk1
        obtain ⟨g2, o2, B2, d2, rfl, S2, e1⟩ := elD (H2.out.since stD HW.out) hk2
        have HC := Lib.hid (fun W (kk : Since wr W) => (show W.cell? ⟨g, o + k, none⟩ = _ ∧ W.cell? ⟨g2, o2 + k, none⟩ = _ from ⟨(kk.cell _ (World.block_lt_of_cell? _ _ e0)).trans e0, (kk.cell _ (World.block_lt_of_cell? _ _ e1)).trans e1⟩))
        have t1 := List.take_succ_eq_append_getElem hk1
        have t2 := List.take_succ_eq_append_getElem hk2
        have hno := Lib.hid (fun (hne : xs[k] ≠ ys[k]) => show false = R by
          rw [HR.out, decide_eq_false]; intro e; subst e; exact hne rfl)
        have hyl := HB.out _ (List.getElem_mem hk2)
        generalize xs[k] = y at *
        generalize ys[k] = z at *
        have RR0 := Lib.hid (fun b (hb : decide (y = z) = b) W (kk : Since wr W) => by
          have := ranges_any _ _ y z W (S1.since stR kk) (S2.since stR kk) hyl
          rw [hb] at this; exact this)
        obtain ⟨p1, hp1⟩ : ∃ p, p = y.length := ⟨_, rfl⟩
        obtain ⟨p2, hp2⟩ : ∃ p, p = z.length := ⟨_, rfl⟩
        rw [← hp1] at HC RR0
        rw [← hp2] at HC RR0
        have T1 := Lib.hid t1
        have T2 := Lib.hid t2
        clear t1 t2 hk1 hk2 S1 S2 e0 e1 hyl hp1 hp2
        by_cases hyz : y = z
        · have RR := Lib.hid (RR0.out true (decide_eq_true hyz))
          subst hyz
          clear RR0 hno
          go_wp2
          have hr0 : Since wr wr.drew := Since.drew (Since.refl wr)
          refine wp_region_noPanic ?_
          refine Reg.wp_region_G (S := fun _ => True) (fun j => [8, 9].contains j) (by kernel_rfl) trivial ?_
          refine' Reg.tk3 (i := 0) (v := _) (some 16) [2, 3, 8, 9] [8, 9] rfl (Or.inl ⟨by rfl, Or.inl ?hy1⟩) ?rest1
          case hy1 => (intro w' kk ss; obtain ⟨x0, x1⟩ := HC.out _ (hr0.trans kk); go_simp; first | done | with_reducible rfl)
          try simp only [Act.put, List.setIfInBounds_toArray, List.set_cons_zero, List.set_cons_succ]
          refine' Reg.tk3 (i := 1) (v := _) (some 17) [2, 3, 8, 9] [8, 9] rfl (Or.inl ⟨by rfl, Or.inl ?hy2⟩) ?rest2
          case hy2 => (intro w' kk ss; obtain ⟨x0, x1⟩ := HC.out _ (hr0.trans kk); go_simp; first | done | with_reducible rfl)
          try simp only [Act.put, List.setIfInBounds_toArray, List.set_cons_zero, List.set_cons_succ]
          refine' Reg.tk3 (i := 2) (v := _) (some 18) [3, 8, 9] [8, 9] rfl (Or.inl ⟨by rfl, Or.inl ?hy3⟩) ?rest3
          case hy3 => (intro w' kk ss; obtain ⟨x0, x1⟩ := HC.out _ (hr0.trans kk); go_simp; first | done | with_reducible rfl)
          try simp only [Act.put, List.setIfInBounds_toArray, List.set_cons_zero, List.set_cons_succ]
          refine' Reg.tk3 (i := 3) (v := _) (some 19) [8, 9] [8, 9] rfl (Or.inl ⟨by rfl, Or.inl ?hy4⟩) ?rest4
          case hy4 => (intro w' kk ss; obtain ⟨x0, x1⟩ := HC.out _ (hr0.trans kk); go_simp; first | done | with_reducible rfl)
          try simp only [Act.put, List.setIfInBounds_toArray, List.set_cons_zero, List.set_cons_succ]
          refine' Reg.tk3 (i := 4) (v := _) (some 20) [6, 7, 8, 9] [8, 9] rfl (Or.inl ⟨by rfl, Or.inl ?hy5⟩) ?rest5
          case hy5 => (intro w' kk ss; obtain ⟨x0, x1⟩ := HC.out _ (hr0.trans kk); go_simp; first | done | with_reducible rfl)
          try simp only [Act.put, List.setIfInBounds_toArray, List.set_cons_zero, List.set_cons_succ]
          refine' Reg.tk3 (i := 5) (v := _) (some 21) [6, 7, 8, 9] [8, 9] rfl (Or.inl ⟨by rfl, Or.inl ?hy6⟩) ?rest6
          case hy6 => (intro w' kk ss; obtain ⟨x0, x1⟩ := HC.out _ (hr0.trans kk); go_simp; first | done | with_reducible rfl)
          try simp only [Act.put, List.setIfInBounds_toArray, List.set_cons_zero, List.set_cons_succ]
          refine' Reg.tk3 (i := 6) (v := _) (some 22) [7, 8, 9] [8, 9] rfl (Or.inl ⟨by rfl, Or.inl ?hy7⟩) ?rest7
          case hy7 => (intro w' kk ss; obtain ⟨x0, x1⟩ := HC.out _ (hr0.trans kk); go_simp; first | done | with_reducible rfl)
          try simp only [Act.put, List.setIfInBounds_toArray, List.set_cons_zero, List.set_cons_succ]
          refine' Reg.tk3 (i := 7) (v := _) (some 23) [8, 9] [8, 9] rfl (Or.inl ⟨by rfl, Or.inl ?hy8⟩) ?rest8
          case hy8 => (intro w' kk ss; obtain ⟨x0, x1⟩ := HC.out _ (hr0.trans kk); go_simp; first | done | with_reducible rfl)
          try simp only [Act.put, List.setIfInBounds_toArray, List.set_cons_zero, List.set_cons_succ]
          refine Reg.wpG_ready (rs := [8]) (by kernel_rfl) (by simp) (fun wq kq sq => ?_)
          have hr0 := hr0.trans kq
          refine Reg.AllG.last (o := { dst := some 24, op := Op.call { callee := Callee.value (Operand.func 27), args := #[Operand.tmp 19, Operand.tmp 23], argTypes := #[43, 43] }, type := 4, pos := "law.go:64", after := #[{ on := 3, ground := Ground.data }, { on := 7, ground := Ground.data }], guard := none }) rfl (by rfl) (fun K hK => ?_) Reg.AllG.nil
          go_simp
          (with_reducible refine (RR.out wq hr0).mono ?_)
          rintro e yw ⟨rfl, k9⟩
          refine hK.out _ _ trivial (fun hHeld => ?_)
          clear hK K
          try simp only [Act.put, List.setIfInBounds_toArray, List.set_cons_zero, List.set_cons_succ]
          refine' Reg.ah3 (i := 9) (v := _) (some 25) rfl (by kernel_rfl) (by kernel_rfl) (by kernel_rfl) (fun _ _ _ h => h) (Or.inl ⟨by rfl, ?hy9⟩) (by assumption) ?rest9
          case hy9 => (intro w' ss; (try dsimp only at ss); go_simp; first | done | with_reducible rfl)
          try simp only [Act.put, List.setIfInBounds_toArray, List.set_cons_zero, List.set_cons_succ]
          refine wpAnyH_done (by kernel_rfl) ?_ _
          refine NoPanic.normal ?_
          have hr0' := Lib.hid hr0
          clear hr0 hHeld
          go_wp2
          go_roundw
          case rel => exact ⟨k + 1, by go_num, by omega, Lib.hid (by rw [T1.out, T2.out, HE.out]), HW.out.trans (hr0'.out.trans k9)⟩
          case measure => simp [intOf]; omega
        · have RR := Lib.hid (RR0.out false (decide_eq_false hyz))
          have HX := Lib.hid (hno.out hyz)
          clear hno RR0
          go_wp2
          have hr0 : Since wr wr.drew := Since.drew (Since.refl wr)
          refine wp_region_noPanic ?_
          refine Reg.wp_region_G (S := fun _ => True) (fun j => [8, 9].contains j) (by kernel_rfl) trivial ?_
          refine' Reg.tk3 (i := 0) (v := _) (some 16) [2, 3, 8, 9] [8, 9] rfl (Or.inl ⟨by rfl, Or.inl ?hyN1⟩) ?restN1
          case hyN1 => (intro w' kk ss; obtain ⟨x0, x1⟩ := HC.out _ (hr0.trans kk); go_simp; first | done | with_reducible rfl)
          try simp only [Act.put, List.setIfInBounds_toArray, List.set_cons_zero, List.set_cons_succ]
          refine' Reg.tk3 (i := 1) (v := _) (some 17) [2, 3, 8, 9] [8, 9] rfl (Or.inl ⟨by rfl, Or.inl ?hyN2⟩) ?restN2
          case hyN2 => (intro w' kk ss; obtain ⟨x0, x1⟩ := HC.out _ (hr0.trans kk); go_simp; first | done | with_reducible rfl)
          try simp only [Act.put, List.setIfInBounds_toArray, List.set_cons_zero, List.set_cons_succ]
          refine' Reg.tk3 (i := 2) (v := _) (some 18) [3, 8, 9] [8, 9] rfl (Or.inl ⟨by rfl, Or.inl ?hyN3⟩) ?restN3
          case hyN3 => (intro w' kk ss; obtain ⟨x0, x1⟩ := HC.out _ (hr0.trans kk); go_simp; first | done | with_reducible rfl)
          try simp only [Act.put, List.setIfInBounds_toArray, List.set_cons_zero, List.set_cons_succ]
          refine' Reg.tk3 (i := 3) (v := _) (some 19) [8, 9] [8, 9] rfl (Or.inl ⟨by rfl, Or.inl ?hyN4⟩) ?restN4
          case hyN4 => (intro w' kk ss; obtain ⟨x0, x1⟩ := HC.out _ (hr0.trans kk); go_simp; first | done | with_reducible rfl)
          try simp only [Act.put, List.setIfInBounds_toArray, List.set_cons_zero, List.set_cons_succ]
          refine' Reg.tk3 (i := 4) (v := _) (some 20) [6, 7, 8, 9] [8, 9] rfl (Or.inl ⟨by rfl, Or.inl ?hyN5⟩) ?restN5
          case hyN5 => (intro w' kk ss; obtain ⟨x0, x1⟩ := HC.out _ (hr0.trans kk); go_simp; first | done | with_reducible rfl)
          try simp only [Act.put, List.setIfInBounds_toArray, List.set_cons_zero, List.set_cons_succ]
          refine' Reg.tk3 (i := 5) (v := _) (some 21) [6, 7, 8, 9] [8, 9] rfl (Or.inl ⟨by rfl, Or.inl ?hyN6⟩) ?restN6
          case hyN6 => (intro w' kk ss; obtain ⟨x0, x1⟩ := HC.out _ (hr0.trans kk); go_simp; first | done | with_reducible rfl)
          try simp only [Act.put, List.setIfInBounds_toArray, List.set_cons_zero, List.set_cons_succ]
          refine' Reg.tk3 (i := 6) (v := _) (some 22) [7, 8, 9] [8, 9] rfl (Or.inl ⟨by rfl, Or.inl ?hyN7⟩) ?restN7
          case hyN7 => (intro w' kk ss; obtain ⟨x0, x1⟩ := HC.out _ (hr0.trans kk); go_simp; first | done | with_reducible rfl)
          try simp only [Act.put, List.setIfInBounds_toArray, List.set_cons_zero, List.set_cons_succ]
          refine' Reg.tk3 (i := 7) (v := _) (some 23) [8, 9] [8, 9] rfl (Or.inl ⟨by rfl, Or.inl ?hyN8⟩) ?restN8
          case hyN8 => (intro w' kk ss; obtain ⟨x0, x1⟩ := HC.out _ (hr0.trans kk); go_simp; first | done | with_reducible rfl)
          try simp only [Act.put, List.setIfInBounds_toArray, List.set_cons_zero, List.set_cons_succ]
          refine Reg.wpG_ready (rs := [8]) (by kernel_rfl) (by simp) (fun wq kq sq => ?_)
          have hr0 := hr0.trans kq
          refine Reg.AllG.last (o := { dst := some 24, op := Op.call { callee := Callee.value (Operand.func 27), args := #[Operand.tmp 19, Operand.tmp 23], argTypes := #[43, 43] }, type := 4, pos := "law.go:64", after := #[{ on := 3, ground := Ground.data }, { on := 7, ground := Ground.data }], guard := none }) rfl (by rfl) (fun K hK => ?_) Reg.AllG.nil
          go_simp
          (with_reducible refine (RR.out wq hr0).mono ?_)
          rintro e yw ⟨rfl, k9⟩
          refine hK.out _ _ trivial (fun hHeld => ?_)
          clear hK K
          try simp only [Act.put, List.setIfInBounds_toArray, List.set_cons_zero, List.set_cons_succ]
          refine' Reg.ah3 (i := 9) (v := _) (some 25) rfl (by kernel_rfl) (by kernel_rfl) (by kernel_rfl) (fun _ _ _ h => h) (Or.inl ⟨by rfl, ?hyN9⟩) (by assumption) ?restN9
          case hyN9 => (intro w' ss; (try dsimp only at ss); go_simp; first | done | with_reducible rfl)
          try simp only [Act.put, List.setIfInBounds_toArray, List.set_cons_zero, List.set_cons_succ]
          refine wpAnyH_done (by kernel_rfl) ?_ _
          refine NoPanic.normal ?_
          have hr0' := Lib.hid hr0
          clear hr0 hHeld
          go_wp2
          go_ret
          exact .of HX.out (HW.out.trans (hr0'.out.trans k9))
      · obtain rfl : k = n := by omega
        have HX := Lib.hid (show true = R by
          have e := HE.out
          rw [List.take_of_length_le (by have := HN.out; omega), List.take_of_length_le (by have := HM.out; omega)] at e
          rw [HR.out, decide_eq_true e])
        go_wp2
        go_ret
        exact .of HX.out HW.out
  · have hb : ((n : Int) != (m : Int)) = true := by rw [bne_iff_ne]; omega
    have HX := Lib.hid (show false = R by
      rw [HR.out, decide_eq_false]; intro e; exact hnm (by rw [HN.out, HM.out, e]))
    go_enter Try.func19, Try.ntmps19
    go_wp2
    go_ret
    exact .of HX.out (Since.refl _)
end Go.Proofs.Ytilgmkhcpmegjaa.Tr
