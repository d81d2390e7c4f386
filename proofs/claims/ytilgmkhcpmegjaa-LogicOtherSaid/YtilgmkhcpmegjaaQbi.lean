/- Layer 9 (set): what is asked of a set: the document's own Has. Layer 9 (set): what is asked of a set: the docu -/
import Derived.Test.YtilgmkhcpmegjaaQah
import Derived.Test.YtilgmkhcpmegjaaEj
set_option linter.unusedVariables false
set_option linter.unusedSimpArgs false
section
namespace Go.Proofs.Ytilgmkhcpmegjaa.Zs
open Go.RowKit
open Go.Proofs.Ytilgmkhcpmegjaa.Dig Go.Proofs.Ytilgmkhcpmegjaa.Lx Go.Proofs.Ytilgmkhcpmegjaa.Tk Go.Proofs.Ytilgmkhcpmegjaa.Ti
theorem wrap_id {x : Int} (h1 : -9223372036854775808 ≤ x) (h2 : x ≤ 9223372036854775807) : IntKind.i64.wrap x = x := by simp [IntKind.wrap, IntKind.bits, IntKind.signed]; omega
set_option maxRecDepth 20000 in
set_option maxHeartbeats 1000000 in
theorem rhas_any (v : Value) (l : List Rn) (x : Int) (w : World) (h : Sl 2 QR w v l) (hl : l.length ≤ 1100000) (hb : Bd l) :
    Calls Try.prog 26 #[v, .int .i64 x] w (RetT (has l x) w) := by
  obtain ⟨A, c, rfl⟩ := h.form
  obtain ⟨rb, hrb⟩ : ∃ rb, right l = rb := ⟨_, rfl⟩
  have RA := Lib.hid (rright_at h hl hb hrb)
  obtain ⟨R, hR⟩ : ∃ R, R = hasF l x := ⟨_, rfl⟩
  have e : has l x = (rb && R) := by rw [has, hrb, hR]
  rw [e]
  obtain ⟨n, hn⟩ : ∃ n, n = l.length := ⟨_, rfl⟩
  rw [← hn] at h hl RA ⊢
  have H := Lib.hid h
  have HN := Lib.hid hn
  have HR := Lib.hid hR
  clear h hn hb hR e hrb
  go_enter Try.func26, Try.ntmps26
  go_wp2
  go_loopw [5] (fun i wr => ∃ k : Nat, i = .int .i64 (k : Int) ∧ k ≤ n ∧ Hid (hasF (l.drop k) x = R) ∧ Hid (Since w wr)) (fun i _ => n - (intOf i).toNat)
  case atStart => exact ⟨0, rfl, Nat.zero_le _, HR.out.symm, Since.refl _⟩
  case round =>
    obtain ⟨k, rfl, hk, HE, HW⟩ := hrel
    by_cases hkn : k < n
    · have hkl : k < l.length := by have := HN.out; omega
      obtain ⟨g, o, rfl, e0, e1⟩ := elR (H.out.since stR HW.out) hkl
      have hst := HE.out
      rw [drop_at hkl, hasF] at hst
      generalize l[k] = y at *
      obtain ⟨lo, hi⟩ := y
      simp only at hst e0 e1
      have ST := Lib.hid hst
      clear hst hkl HE
      by_cases c1 : x ≥ lo
      · by_cases c2 : x ≤ hi
        · have HE := Lib.hid (show rb = (rb && R) by rw [← ST.out, show decide (lo ≤ x) = true by simpa using c1, show decide (x ≤ hi) = true by simpa using c2]; simp)
          go_wp2_with (go_at_call 73; (with_reducible refine (RA.out _ HW.out).mono ?_); rintro e w1 ⟨rfl, k1⟩)
          go_ret
          exact .of HE.out (HW.out.trans k1)
        · have HE := Lib.hid (show hasF (l.drop (k + 1)) x = R by rw [← ST.out, show decide (x ≤ hi) = false by simpa using c2]; simp)
          go_wp2
          go_roundw
          case rel => exact ⟨k + 1, by go_num, by omega, HE.out, HW.out⟩
          case measure => simp [intOf]; omega
      · have HE := Lib.hid (show hasF (l.drop (k + 1)) x = R by rw [← ST.out, show decide (lo ≤ x) = false by simpa using c1]; simp)
        go_wp2
        go_roundw
        case rel => exact ⟨k + 1, by go_num, by omega, HE.out, HW.out⟩
        case measure => simp [intOf]; omega
    · obtain rfl : k = n := by omega
      have HE2 := Lib.hid (show false = (rb && R) by rw [← HE.out, List.drop_of_length_le (by have := HN.out; omega)]; simp [hasF])
      go_wp2
      go_ret
      exact .of HE2.out HW.out
end Go.Proofs.Ytilgmkhcpmegjaa.Zs
end
section
namespace Go.Proofs.Ytilgmkhcpmegjaa.Zs
open Go.RowKit
open Go.Proofs.Ytilgmkhcpmegjaa.Dig Go.Proofs.Ytilgmkhcpmegjaa.Lx Go.Proofs.Ytilgmkhcpmegjaa.Tk Go.Proofs.Ytilgmkhcpmegjaa.Ti
set_option maxRecDepth 20000 in
set_option maxHeartbeats 1000000 in
theorem rnext_any (v : Value) (l : List Rn) (x : Int) (w : World) (h : Sl 2 QR w v l) (hl : l.length ≤ 1100000) (hb : Bd l) (hx : fits x) :
    Calls Try.prog 139 #[v, .int .i64 x] w (RetN (next l x) w) := by
  obtain ⟨A, c, rfl⟩ := h.form
  cases hr : right l with
  | false =>
    have RA := Lib.hid (rright_at h hl hb hr)
    have e : next l x = none := by rw [next, if_neg (by simp [hr])]
    rw [e]
    clear h hb hr e
    go_enter Try.func139, Try.ntmps139
    go_wp2_with (go_at_call 73; (with_reducible refine (RA.out _ (Since.refl _)).mono ?_); rintro e w1 ⟨rfl, k1⟩)
    go_ret2
    exact .no rfl k1
  | true =>
    have RA := Lib.hid (rright_at h hl hb hr)
    have HF := Lib.hid (right_full hr)
    obtain ⟨R, hR⟩ : ∃ R, R = nextF l x := ⟨_, rfl⟩
    have e : next l x = R := by rw [next, if_pos hr, hR]
    rw [e]
    obtain ⟨n, hn⟩ : ∃ n, n = l.length := ⟨_, rfl⟩
    rw [← hn] at h hl RA ⊢
    have H := Lib.hid h
    have HN := Lib.hid hn
    have HR := Lib.hid hR
    simp only [fits] at hx
    clear h hn hb hR e hr
    go_enter Try.func139, Try.ntmps139
    go_wp2_with (go_at_call 73; (with_reducible refine (RA.out _ (Since.refl _)).mono ?_); rintro e w1 ⟨rfl, k1⟩)
    go_loopw [6] (fun i wr => ∃ k : Nat, i = .int .i64 (k : Int) ∧ k ≤ n ∧ Hid (nextF (l.drop k) x = R) ∧ Hid (Since w wr)) (fun i _ => n - (intOf i).toNat)
    case atStart => exact ⟨0, rfl, Nat.zero_le _, HR.out.symm, k1⟩
    case round =>
      obtain ⟨k, rfl, hk, HE, HW⟩ := hrel
      by_cases hkn : k < n
      · have hkl : k < l.length := by have := HN.out; omega
        obtain ⟨g, o, rfl, e0, e1⟩ := elR (H.out.since stR HW.out) hkl
        have hst := HE.out
        rw [drop_at hkl, nextF] at hst
        have hbz := HF.out l[k] (List.getElem_mem hkl)
        generalize l[k] = y at *
        obtain ⟨lo, hi⟩ := y
        simp only [mx] at hst hbz e0 e1
        have ST := Lib.hid hst
        clear hst hkl HE
        by_cases c1 : x ≤ hi
        · have HE := Lib.hid ((if_pos c1).symm.trans ST.out)
          by_cases c4 : x < lo
          · have HE2 := Lib.hid ((congrArg some (show lo = max x lo by omega)).trans HE.out)
            go_wp2
            go_ret2
            exact .yes HE2.out HW.out
          · have HE2 := Lib.hid ((congrArg some (show x = max x lo by omega)).trans HE.out)
            go_wp2
            go_ret2
            exact .yes HE2.out HW.out
        · have HE := Lib.hid ((if_neg c1).symm.trans ST.out)
          go_wp2
          go_roundw
          case rel => exact ⟨k + 1, by go_num, by omega, HE.out, HW.out⟩
          case measure => simp [intOf]; omega
      · obtain rfl : k = n := by omega
        have HE2 := Lib.hid (show none = R by rw [← HE.out, List.drop_of_length_le (by have := HN.out; omega)]; rfl)
        go_wp2
        go_ret2
        exact .no HE2.out HW.out
set_option maxRecDepth 20000 in
set_option maxHeartbeats 1000000 in
theorem rsize_any (v : Value) (l : List Rn) (w : World) (h : Sl 2 QR w v l) (hl : l.length ≤ 1100000) (hb : Bd l) :
    Calls Try.prog 137 #[v] w (RetI (size l) w) := by
  obtain ⟨A, c, rfl⟩ := h.form
  cases hr : right l with
  | false =>
    have RA := Lib.hid (rright_at h hl hb hr)
    have e : size l = 0 := by rw [size, if_neg (by simp [hr])]
    rw [e]
    clear h hb hr e
    go_enter Try.func137, Try.ntmps137
    go_wp2_with (go_at_call 73; (with_reducible refine (RA.out _ (Since.refl _)).mono ?_); rintro e w1 ⟨rfl, k1⟩)
    go_ret
    exact ⟨rfl, k1⟩
  | true =>
    have RA := Lib.hid (rright_at h hl hb hr)
    obtain ⟨R, hR⟩ : ∃ R, R = sizeF l := ⟨_, rfl⟩
    have e : size l = R := by rw [size, if_pos hr, hR]
    rw [e]
    obtain ⟨n, hn⟩ : ∃ n, n = l.length := ⟨_, rfl⟩
    rw [← hn] at h hl RA ⊢
    have H := Lib.hid h
    have HN := Lib.hid hn
    have HR := Lib.hid hR
    have HO := Lib.hid (show okF (-mx) l = true from hr)
    clear h hn hb hR e hr
    go_enter Try.func137, Try.ntmps137
    go_wp2_with (go_at_call 73; (with_reducible refine (RA.out _ (Since.refl _)).mono ?_); rintro e w1 ⟨rfl, k1⟩)
    go_loopw [3, 4] (fun s i wr => ∃ (k : Nat) (z b : Int), i = .int .i64 (k : Int) ∧ s = .int .i64 z ∧ k ≤ n ∧ 0 ≤ z ∧ z ≤ b + 1048576 ∧ b ≤ 1048578 ∧ Hid (okF b (l.drop k) = true) ∧ Hid (z + sizeF (l.drop k) = R) ∧ Hid (Since w wr)) (fun _ i _ => n - (intOf i).toNat)
    case atStart => exact ⟨0, 0, -1048576, rfl, rfl, Nat.zero_le _, by omega, by omega, by omega, HO.out, by rw [HR.out]; exact Int.zero_add _, k1⟩
    case round =>
      obtain ⟨k, z, b, rfl, rfl, hk, hz0, hz1, hb1, HO1, HE, HW⟩ := hrel
      by_cases hkn : k < n
      · have hkl : k < l.length := by have := HN.out; omega
        obtain ⟨g, o, rfl, e0, e1⟩ := elR (H.out.since stR HW.out) hkl
        have hst := HE.out
        have hok := HO1.out
        rw [drop_at hkl, sizeF] at hst
        rw [drop_at hkl, okF_cons] at hok
        generalize l[k] = y at *
        obtain ⟨lo, hi⟩ := y
        simp only [mx] at hst hok e0 e1
        obtain ⟨q1, q2, q3, q4⟩ := hok
        have ST := Lib.hid hst
        have HQ := Lib.hid q4
        clear hst hkl HE HO1 q4
        have HE := Lib.hid (show z + hi - lo + 1 + sizeF (l.drop (k + 1)) = R by rw [← ST.out]; omega)
        have HC := Lib.hid (fun W (kk : Since wr W) => (show W.cell? ⟨g, o + k * 2, none⟩ = some (.int .i64 lo) ∧ W.cell? ⟨g, o + k * 2 + 1, none⟩ = some (.int .i64 hi) from ⟨(kk.cell _ (World.block_lt_of_cell? _ _ e0)).trans e0, (kk.cell _ (World.block_lt_of_cell? _ _ e1)).trans e1⟩))
        clear e0 e1
        have hv1 := wrap_id (x := z + hi) (by omega) (by omega)
        have hv2 := wrap_id (x := z + hi - lo) (by omega) (by omega)
        have hv3 := wrap_id (x := z + hi - lo + 1) (by omega) (by omega)
        go_wp2
        have hr0 : Since wr wr.drew := Since.drew (Since.refl wr)
        refine wp_region_noPanic ?_
        refine Reg.wp_region_G (S := fun _ => True) (fun j => [].contains j) (by kernel_rfl) trivial ?_
        refine' Reg.tk3 (i := 0) (v := _) (some 14) [6, 12, 13, 14] [] rfl (Or.inl ⟨by rfl, Or.inl ?hy2⟩) ?rest2
        case hy2 => (intro w' kk ss; obtain ⟨x0, x1⟩ := HC.out _ (hr0.trans kk); go_simp; first | done | with_reducible rfl)
        try simp only [Act.put, List.setIfInBounds_toArray, List.set_cons_zero, List.set_cons_succ]
        refine' Reg.tk3 (i := 1) (v := _) (some 15) [3, 4, 5, 6, 12, 13, 14] [] rfl (Or.inl ⟨by rfl, Or.inl ?hy3⟩) ?rest3
        case hy3 => (intro w' kk ss; obtain ⟨x0, x1⟩ := HC.out _ (hr0.trans kk); go_simp; first | done | with_reducible rfl)
        try simp only [Act.put, List.setIfInBounds_toArray, List.set_cons_zero, List.set_cons_succ]
        refine' Reg.tk3 (i := 2) (v := _) (some 16) [3, 4, 5, 6, 12, 13, 14] [] rfl (Or.inl ⟨by rfl, Or.inl ?hy4⟩) ?rest4
        case hy4 => (intro w' kk ss; obtain ⟨x0, x1⟩ := HC.out _ (hr0.trans kk); go_simp; first | done | with_reducible rfl)
        try simp only [Act.put, List.setIfInBounds_toArray, List.set_cons_zero, List.set_cons_succ]
        refine' Reg.tk3 (i := 3) (v := _) (some 17) [4, 5, 6, 12, 13, 14] [] rfl (Or.inl ⟨by rfl, Or.inl ?hy5⟩) ?rest5
        case hy5 => (intro w' kk ss; obtain ⟨x0, x1⟩ := HC.out _ (hr0.trans kk); go_simp; first | done | with_reducible rfl)
        try simp only [Act.put, List.setIfInBounds_toArray, List.set_cons_zero, List.set_cons_succ]
        refine' Reg.tk3 (i := 4) (v := _) (some 18) [5, 6, 12, 13, 14] [] rfl (Or.inl ⟨by rfl, Or.inl ?hy6⟩) ?rest6
        case hy6 => (intro w' kk ss; obtain ⟨x0, x1⟩ := HC.out _ (hr0.trans kk); go_simp; first | done | with_reducible rfl)
        try simp only [Act.put, List.setIfInBounds_toArray, List.set_cons_zero, List.set_cons_succ]
        refine' Reg.tk3 (i := 5) (v := _) (some 19) [6, 12, 13, 14] [] rfl (Or.inl ⟨by rfl, Or.inl ?hy7⟩) ?rest7
        case hy7 => (intro w' kk ss; obtain ⟨x0, x1⟩ := HC.out _ (hr0.trans kk); go_simp; first | done | with_reducible rfl)
        try simp only [Act.put, List.setIfInBounds_toArray, List.set_cons_zero, List.set_cons_succ]
        refine' Reg.tk3 (i := 6) (v := _) (some 20) [12, 13, 14] [] rfl (Or.inl ⟨by rfl, Or.inl ?hy8⟩) ?rest8
        case hy8 => (intro w' kk ss; obtain ⟨x0, x1⟩ := HC.out _ (hr0.trans kk); go_simp; first | done | with_reducible rfl)
        try simp only [Act.put, List.setIfInBounds_toArray, List.set_cons_zero, List.set_cons_succ]
        refine' Reg.tk3 (i := 7) (v := _) (some 21) [9, 10, 11, 12, 13, 14] [] rfl (Or.inl ⟨by rfl, Or.inl ?hy9⟩) ?rest9
        case hy9 => (intro w' kk ss; obtain ⟨x0, x1⟩ := HC.out _ (hr0.trans kk); go_simp; first | done | with_reducible rfl)
        try simp only [Act.put, List.setIfInBounds_toArray, List.set_cons_zero, List.set_cons_succ]
        refine' Reg.tk3 (i := 8) (v := _) (some 22) [9, 10, 11, 12, 13, 14] [] rfl (Or.inl ⟨by rfl, Or.inl ?hy10⟩) ?rest10
        case hy10 => (intro w' kk ss; obtain ⟨x0, x1⟩ := HC.out _ (hr0.trans kk); go_simp; first | done | with_reducible rfl)
        try simp only [Act.put, List.setIfInBounds_toArray, List.set_cons_zero, List.set_cons_succ]
        refine' Reg.tk3 (i := 9) (v := _) (some 23) [10, 11, 12, 13, 14] [] rfl (Or.inl ⟨by rfl, Or.inl ?hy11⟩) ?rest11
        case hy11 => (intro w' kk ss; obtain ⟨x0, x1⟩ := HC.out _ (hr0.trans kk); go_simp; first | done | with_reducible rfl)
        try simp only [Act.put, List.setIfInBounds_toArray, List.set_cons_zero, List.set_cons_succ]
        refine' Reg.tk3 (i := 10) (v := _) (some 24) [11, 12, 13, 14] [] rfl (Or.inl ⟨by rfl, Or.inl ?hy12⟩) ?rest12
        case hy12 => (intro w' kk ss; obtain ⟨x0, x1⟩ := HC.out _ (hr0.trans kk); go_simp; first | done | with_reducible rfl)
        try simp only [Act.put, List.setIfInBounds_toArray, List.set_cons_zero, List.set_cons_succ]
        refine' Reg.tk3 (i := 11) (v := _) (some 25) [12, 13, 14] [] rfl (Or.inl ⟨by rfl, Or.inl ?hy13⟩) ?rest13
        case hy13 => (intro w' kk ss; obtain ⟨x0, x1⟩ := HC.out _ (hr0.trans kk); go_simp; first | done | with_reducible rfl)
        try simp only [Act.put, List.setIfInBounds_toArray, List.set_cons_zero, List.set_cons_succ]
        refine' Reg.tk3 (i := 12) (v := _) (some 26) [13, 14] [] rfl (Or.inl ⟨by rfl, Or.inl ?hy14⟩) ?rest14
        case hy14 => (intro w' kk ss; obtain ⟨x0, x1⟩ := HC.out _ (hr0.trans kk); go_simp; first | done | with_reducible rfl)
        try simp only [Act.put, List.setIfInBounds_toArray, List.set_cons_zero, List.set_cons_succ]
        refine' Reg.tk3 (i := 13) (v := _) (some 27) [14] [] rfl (Or.inl ⟨by rfl, Or.inl ?hy15⟩) ?rest15
        case hy15 => (intro w' kk ss; obtain ⟨x0, x1⟩ := HC.out _ (hr0.trans kk); go_simp; first | done | with_reducible rfl)
        try simp only [Act.put, List.setIfInBounds_toArray, List.set_cons_zero, List.set_cons_succ]
        refine' Reg.tk3 (i := 14) (v := _) (some 3) [] [] rfl (Or.inl ⟨by rfl, Or.inl ?hy16⟩) ?rest16
        case hy16 => (intro w' kk ss; obtain ⟨x0, x1⟩ := HC.out _ (hr0.trans kk); go_simp; first | done | with_reducible rfl)
        try simp only [Act.put, List.setIfInBounds_toArray, List.set_cons_zero, List.set_cons_succ]
        refine Reg.wpG_done (by kernel_rfl) (fun we ke se => ?_) _
        refine NoPanic.normal ?_
        have hr0 := hr0.trans ke
        clear ke
        go_wp2
        go_roundw
        case rel => exact ⟨k + 1, z + hi - lo + 1, hi + 2, by go_num, by go_num, by omega, by omega, by omega, by omega, HQ.out, HE.out, HW.out.trans hr0⟩
        case measure => simp [intOf]; omega
      · obtain rfl : k = n := by omega
        have HE2 := Lib.hid (show z = R by rw [← HE.out, List.drop_of_length_le (by have := HN.out; omega)]; simp [sizeF])
        go_wp2
        go_ret
        exact .of HE2.out HW.out
end Go.Proofs.Ytilgmkhcpmegjaa.Zs
end
