/- Layer 9 (set): the document's own Cut. -/
import Derived.Test.YtilgmkhcpmegjaaQah
import Derived.Test.YtilgmkhcpmegjaaEj
namespace Go.Proofs.Ytilgmkhcpmegjaa.Zs
open Go.RowKit
set_option linter.unusedVariables false
set_option linter.unusedSimpArgs false
open Go.Proofs.Ytilgmkhcpmegjaa.Dig Go.Proofs.Ytilgmkhcpmegjaa.Lx Go.Proofs.Ytilgmkhcpmegjaa.Tk Go.Proofs.Ytilgmkhcpmegjaa.Ti
set_option maxRecDepth 20000 in
set_option maxHeartbeats 2000000 in
theorem rcut_new (v : Value) (l : List Rn) (lo hi : Int) (w : World) (h : Sl 2 QR w v l) (hl : l.length ≤ 1100000) (hb : Bd l) :
    Calls Try.prog 138 #[v, .int .i64 lo, .int .i64 hi] w (RetF (cut l lo hi) w) := by
  obtain ⟨A, c, rfl⟩ := h.form
  cases hr : right l with
  | false =>
    have RA := Lib.hid (rright_at h hl hb hr)
    have E := Lib.hid (show cut l lo hi = [] by rw [cut, if_neg (by simp [hr])])
    clear h hb hr
    go_enter Try.func138, Try.ntmps138
    go_wp2_with (go_at_call 73; (with_reducible refine (RA.out _ (Since.refl _)).mono ?_); rintro e w1 ⟨rfl, k1⟩)
    go_ret
    exact .none E.out k1
  | true =>
    have RA := Lib.hid (rright_at h hl hb hr)
    obtain ⟨R, hR⟩ : ∃ R, R = cutF l lo hi := ⟨_, rfl⟩
    have e : cut l lo hi = R := by rw [cut, if_pos hr, hR]
    rw [e]
    obtain ⟨n, hn⟩ : ∃ n, n = l.length := ⟨_, rfl⟩
    rw [← hn] at h hl RA ⊢
    have H := Lib.hid h
    have HN := Lib.hid hn
    have HR := Lib.hid hR
    clear h hn hb hR e hr
    go_enter Try.func138, Try.ntmps138
    go_wp2_with (go_at_call 73; (with_reducible refine (RA.out _ (Since.refl _)).mono ?_); rintro e w1 ⟨rfl, k1⟩)
    go_loopw [7, 8] (fun s i wr => ∃ (k : Nat) (A : Option Addr) (m c : Nat) (xs : List Rn), i = .int .i64 (k : Int) ∧ s = .slice A m c ∧ k ≤ n ∧ m ≤ k ∧ Hid (xs.length = m) ∧ Hid (Rw w wr (.slice A m c) xs) ∧ Hid (xs ++ cutF (l.drop k) lo hi = R)) (fun _ i _ => n - (intOf i).toNat)
    case atStart => exact ⟨0, none, 0, 0, [], rfl, rfl, Nat.zero_le _, Nat.le_refl _, rfl, .nil k1, HR.out.symm⟩
    case round =>
      obtain ⟨k, A2, m, d2, xs, rfl, rfl, hk, hm, HX, HW, HE⟩ := hrel
      by_cases hkn : k < n
      · have hkl : k < l.length := by have := HN.out; omega
        obtain ⟨g, o, rfl, e0, e1⟩ := elR (H.out.since stR HW.out.2) hkl
        have hst := HE.out
        rw [drop_at hkl, cutF, ← List.append_assoc] at hst
        generalize l[k] = y at *
        obtain ⟨lo0, hi0⟩ := y
        simp only at hst e0 e1
        have ST := Lib.hid (fun (a b : Int) (ha : a = max lo lo0) (hb : b = min hi hi0) => show (xs ++ one a b) ++ cutF (l.drop (k + 1)) lo hi = R by rw [ha, hb]; exact hst)
        have hlx : xs.length ≤ 8000000 := by have := HX.out; omega
        have HC := Lib.hid (fun W (kk : Since wr W) => (show W.cell? ⟨g, o + k * 2, none⟩ = some (.int .i64 lo0) ∧ W.cell? ⟨g, o + k * 2 + 1, none⟩ = some (.int .i64 hi0) from ⟨(kk.cell _ (World.block_lt_of_cell? _ _ e0)).trans e0, (kk.cell _ (World.block_lt_of_cell? _ _ e1)).trans e1⟩))
        clear hst hkl HE e0 e1
        go_wp2
        have hr0 : Since wr wr.drew := Since.drew (Since.refl wr)
        refine wp_region_noPanic ?_
        refine Reg.wp_region_G (S := fun _ => True) (fun j => [16].contains j) (by kernel_rfl) trivial ?_
        refine' Reg.tk3 (i := 0) (v := _) (some 20) [6, 14, 16] [16] rfl (Or.inl ⟨by rfl, Or.inl ?hy1⟩) ?rest1
        case hy1 => (intro w' kk ss; obtain ⟨x0, x1⟩ := HC.out _ (hr0.trans kk); go_simp; first | done | with_reducible rfl)
        try simp only [Act.put, List.setIfInBounds_toArray, List.set_cons_zero, List.set_cons_succ]
        refine' Reg.tk3 (i := 1) (v := _) (some 21) [3, 4, 5, 6, 14, 16] [16] rfl (Or.inl ⟨by rfl, Or.inl ?hy2⟩) ?rest2
        case hy2 => (intro w' kk ss; obtain ⟨x0, x1⟩ := HC.out _ (hr0.trans kk); go_simp; first | done | with_reducible rfl)
        try simp only [Act.put, List.setIfInBounds_toArray, List.set_cons_zero, List.set_cons_succ]
        refine' Reg.tk3 (i := 2) (v := _) (some 22) [3, 4, 5, 6, 14, 16] [16] rfl (Or.inl ⟨by rfl, Or.inl ?hy3⟩) ?rest3
        case hy3 => (intro w' kk ss; obtain ⟨x0, x1⟩ := HC.out _ (hr0.trans kk); go_simp; first | done | with_reducible rfl)
        try simp only [Act.put, List.setIfInBounds_toArray, List.set_cons_zero, List.set_cons_succ]
        refine' Reg.tk3 (i := 3) (v := _) (some 23) [4, 5, 6, 14, 16] [16] rfl (Or.inl ⟨by rfl, Or.inl ?hy4⟩) ?rest4
        case hy4 => (intro w' kk ss; obtain ⟨x0, x1⟩ := HC.out _ (hr0.trans kk); go_simp; first | done | with_reducible rfl)
        try simp only [Act.put, List.setIfInBounds_toArray, List.set_cons_zero, List.set_cons_succ]
        refine' Reg.tk3 (i := 4) (v := _) (some 24) [5, 6, 14, 16] [16] rfl (Or.inl ⟨by rfl, Or.inl ?hy5⟩) ?rest5
        case hy5 => (intro w' kk ss; obtain ⟨x0, x1⟩ := HC.out _ (hr0.trans kk); go_simp; first | done | with_reducible rfl)
        try simp only [Act.put, List.setIfInBounds_toArray, List.set_cons_zero, List.set_cons_succ]
        refine' Reg.tk3 (i := 5) (v := _) (some 25) [6, 14, 16] [16] rfl (Or.inl ⟨by rfl, Or.inl ?hy6⟩) ?rest6
        case hy6 => (intro w' kk ss; obtain ⟨x0, x1⟩ := HC.out _ (hr0.trans kk); go_simp; first | done | with_reducible rfl)
        try simp only [Act.put, List.setIfInBounds_toArray, List.set_cons_zero, List.set_cons_succ]
        refine' Reg.tk3 (i := 6) (v := _) (some 26) [14, 16] [16] rfl (Or.inl ⟨by rfl, Or.inl ?hy7⟩) ?rest7
        case hy7 => (intro w' kk ss; obtain ⟨x0, x1⟩ := HC.out _ (hr0.trans kk); go_simp; first | done | with_reducible rfl)
        try simp only [Act.put, List.setIfInBounds_toArray, List.set_cons_zero, List.set_cons_succ]
        refine' Reg.tk3 (i := 7) (v := _) (some 27) [13, 14, 16] [16] rfl (Or.inl ⟨by rfl, Or.inl ?hy8⟩) ?rest8
        case hy8 => (intro w' kk ss; obtain ⟨x0, x1⟩ := HC.out _ (hr0.trans kk); go_simp; first | done | with_reducible rfl)
        try simp only [Act.put, List.setIfInBounds_toArray, List.set_cons_zero, List.set_cons_succ]
        refine' Reg.tk3 (i := 8) (v := _) (some 28) [10, 11, 12, 13, 14, 16] [16] rfl (Or.inl ⟨by rfl, Or.inl ?hy9⟩) ?rest9
        case hy9 => (intro w' kk ss; obtain ⟨x0, x1⟩ := HC.out _ (hr0.trans kk); go_simp; first | done | with_reducible rfl)
        try simp only [Act.put, List.setIfInBounds_toArray, List.set_cons_zero, List.set_cons_succ]
        refine' Reg.tk3 (i := 9) (v := _) (some 29) [10, 11, 12, 13, 14, 16] [16] rfl (Or.inl ⟨by rfl, Or.inl ?hy10⟩) ?rest10
        case hy10 => (intro w' kk ss; obtain ⟨x0, x1⟩ := HC.out _ (hr0.trans kk); go_simp; first | done | with_reducible rfl)
        try simp only [Act.put, List.setIfInBounds_toArray, List.set_cons_zero, List.set_cons_succ]
        refine' Reg.tk3 (i := 10) (v := _) (some 30) [11, 12, 13, 14, 16] [16] rfl (Or.inl ⟨by rfl, Or.inl ?hy11⟩) ?rest11
        case hy11 => (intro w' kk ss; obtain ⟨x0, x1⟩ := HC.out _ (hr0.trans kk); go_simp; first | done | with_reducible rfl)
        try simp only [Act.put, List.setIfInBounds_toArray, List.set_cons_zero, List.set_cons_succ]
        refine' Reg.tk3 (i := 11) (v := _) (some 31) [12, 13, 14, 16] [16] rfl (Or.inl ⟨by rfl, Or.inl ?hy12⟩) ?rest12
        case hy12 => (intro w' kk ss; obtain ⟨x0, x1⟩ := HC.out _ (hr0.trans kk); go_simp; first | done | with_reducible rfl)
        try simp only [Act.put, List.setIfInBounds_toArray, List.set_cons_zero, List.set_cons_succ]
        refine' Reg.tk3 (i := 12) (v := _) (some 32) [13, 14, 16] [16] rfl (Or.inl ⟨by rfl, Or.inl ?hy13⟩) ?rest13
        case hy13 => (intro w' kk ss; obtain ⟨x0, x1⟩ := HC.out _ (hr0.trans kk); go_simp; first | done | with_reducible rfl)
        try simp only [Act.put, List.setIfInBounds_toArray, List.set_cons_zero, List.set_cons_succ]
        refine' Reg.tk3 (i := 13) (v := _) (some 33) [14, 16] [16] rfl (Or.inl ⟨by rfl, Or.inl ?hy14⟩) ?rest14
        case hy14 => (intro w' kk ss; obtain ⟨x0, x1⟩ := HC.out _ (hr0.trans kk); go_simp; first | done | with_reducible rfl)
        try simp only [Act.put, List.setIfInBounds_toArray, List.set_cons_zero, List.set_cons_succ]
        refine' Reg.tk3 (i := 14) (v := _) (some 34) [16] [16] rfl (Or.inl ⟨by rfl, Or.inl ?hy15⟩) ?rest15
        case hy15 => (intro w' kk ss; obtain ⟨x0, x1⟩ := HC.out _ (hr0.trans kk); go_simp; first | done | with_reducible rfl)
        try simp only [Act.put, List.setIfInBounds_toArray, List.set_cons_zero, List.set_cons_succ]
        refine Reg.wpG_ready (rs := [15]) (by kernel_rfl) (by simp) (fun wa1 ka1 sa1 => ?_)
        have hr0 := hr0.trans ka1
        have hgb1 := hr0.size
        refine Reg.AllG.first (o := { dst := some 9, op := Op.alloc 46, type := 0, pos := "ref.go:112", after := #[], guard := none }) rfl (by rfl) (fun K hK => ?_) Reg.AllG.nil
        go_simp
        have hx := since_alloc wa1 (.cells #[.int .i64 0, .int .i64 0] 46)
        refine hK.out _ _ trivial hx ?_
        clear hK K
        have hr0 := hr0.trans hx
        have HZ := Lib.hid (fun W (k : Since _ W) => (Bx.fresh wa1 #[.int .i64 0, .int .i64 0] 46).since k)
        clear hx
        try simp only [Act.put, List.setIfInBounds_toArray, List.set_cons_zero, List.set_cons_succ]
        refine Reg.wpG_ready (rs := [16]) (by kernel_rfl) (by simp) (fun wq kq sq => ?_)
        have hr0 := hr0.trans kq
        refine Reg.AllG.last (o := { dst := none, op := Op.store 46 (Operand.tmp 9) (Operand.tmp 34), type := 0, pos := "ref.go:112", after := #[{ on := 15, ground := Ground.data }, { on := 14, ground := Ground.data }, { on := 0, ground := Ground.phase }, { on := 1, ground := Ground.phase }, { on := 2, ground := Ground.phase }, { on := 3, ground := Ground.phase }, { on := 4, ground := Ground.phase }, { on := 5, ground := Ground.phase }, { on := 6, ground := Ground.phase }, { on := 7, ground := Ground.phase }, { on := 8, ground := Ground.phase }, { on := 9, ground := Ground.phase }, { on := 10, ground := Ground.phase }, { on := 11, ground := Ground.phase }, { on := 12, ground := Ground.phase }, { on := 13, ground := Ground.phase }, { on := 14, ground := Ground.phase }, { on := 15, ground := Ground.phase }], guard := none }) rfl (by rfl) (fun K hK => ?_) Reg.AllG.nil
        obtain ⟨f0, f1⟩ := (HZ.out wq kq).two
        obtain ⟨g0, g1⟩ := (HZ.out wq kq).two'
        go_simp
        refine hK.out _ _ trivial (fun hHeld => ?_)
        clear hK K
        try simp only [Act.put, List.setIfInBounds_toArray, List.set_cons_zero, List.set_cons_succ]
        refine wpAnyH_done (by kernel_rfl) ?_ _
        refine NoPanic.normal ?_
        have HM1 := Lib.hid (show (if lo < lo0 then lo0 else lo) = max lo lo0 by split <;> omega)
        have HM2 := Lib.hid (show (if hi0 < hi then hi0 else hi) = min hi hi0 by split <;> omega)
        generalize (if lo < lo0 then lo0 else lo) = M1 at *
        generalize (if hi0 < hi then hi0 else hi) = M2 at *
        have HB := Lib.hid ((HZ.out wq kq).put2 (.int .i64 M1) (.int .i64 M2))
        have HS := Lib.hid (show Since wr _ from since_put2 hr0 hgb1 (.int .i64 M1) (.int .i64 M2))
        have HL := Lib.hid (ST.out M1 M2 HM1.out HM2.out)
        obtain ⟨p0, p1⟩ := HB.out.two
        unfold put2 at p0 p1 HS HB
        obtain ⟨W2, hW2⟩ : ∃ W2, W2 = (wq.setCell ⟨wa1.heap.size, 0, none⟩ (.int .i64 M1)).setCell ⟨wa1.heap.size, 1, none⟩ (.int .i64 M2) := ⟨_, rfl⟩
        rw [← hW2] at p0 p1 HS HB ⊢
        have WB := Lib.hid (HW.out.since HS.out)
        clear HM1 HM2 ST HZ HC hr0 hHeld sq kq sa1 ka1 hW2 hgb1
        by_cases c1 : M1 ≤ M2
        · have HE := Lib.hid (show xs ++ [(M1, M2)] ++ cutF (l.drop (k + 1)) lo hi = R by rw [← show one M1 M2 = [(M1, M2)] from if_pos c1]; exact HL.out)
          clear HL
          go_wp2_with (at_builtin; refine wpList_app (WB.out.since (since_alloc _ _)) (by omega) (M1, M2) W2.heap.size 1 (Bx.fresh W2 _ _).two.1 (Bx.fresh W2 _ _).two.2 (by rfl) _ _ rfl rfl rfl ?_; intro A3 c3 w2 h2 _; rw [HX.out] at h2)
          go_roundw
          case rel => exact ⟨k + 1, A3, m + 1, c3, _, by go_num, by first | rfl | rw [HX.out], by omega, by omega, by rw [List.length_append, HX.out]; rfl, h2, HE.out⟩
          case measure => simp [intOf]; omega
        · have HE := Lib.hid (show xs ++ cutF (l.drop (k + 1)) lo hi = R by have := HL.out; rw [show one M1 M2 = [] from if_neg c1, List.append_nil] at this; exact this)
          clear HL
          go_wp2
          go_roundw
          case rel => exact ⟨k + 1, A2, m, d2, xs, by go_num, rfl, by omega, by omega, HX.out, WB.out, HE.out⟩
          case measure => simp [intOf]; omega
      · obtain rfl : k = n := by omega
        have HE2 := Lib.hid (show xs = R by rw [← HE.out, List.drop_of_length_le (by have := HN.out; omega)]; simp [cutF])
        go_wp2
        go_ret
        exact .of HE2.out HX.out HW.out
theorem rcut_any (v : Value) (l : List Rn) (lo hi : Int) (w : World) (h : Sl 2 QR w v l) (hl : l.length ≤ 1100000) (hb : Bd l) :
    Calls Try.prog 138 #[v, .int .i64 lo, .int .i64 hi] w (RetS (cut l lo hi) w) := (rcut_new v l lo hi w h hl hb).mono fun _ _ h => h.s
end Go.Proofs.Ytilgmkhcpmegjaa.Zs
