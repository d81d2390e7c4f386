/- Layer 9 (set): the landed Meet. -/
import Derived.Test.YtalcgjkegohhgaaQaf
namespace Go.Proofs.Ytalcgjkegohhgaa.Zs
open Go.RowKit
set_option linter.unusedVariables false
set_option linter.unusedSimpArgs false
open Go.Proofs.Ytalcgjkegohhgaa.Dig Go.Proofs.Ytalcgjkegohhgaa.Lx Go.Proofs.Ytalcgjkegohhgaa.Tk Go.Proofs.Ytalcgjkegohhgaa.Ti
/-- what is behind the first range -/
theorem sl_tail {w : World} {g o n c : Nat} {x : Rn} {xs : List Rn} (h : Sl 2 QR w (.slice (some ⟨g, o, none⟩) (n + 1) c) (x :: xs)) : Sl 2 QR w (.slice (some ⟨g, o + 2, none⟩) n (c - 1)) xs := by
  have hn := h.at_
  simp only [List.length_cons] at hn
  refine ⟨some ⟨g, o + 2, none⟩, c - 1, by rw [show n = xs.length by omega], by omega, fun hl => ⟨g, o + 2, rfl, fun i y hy => ?_⟩⟩
  obtain ⟨A', c', h1, -, h3⟩ := h
  obtain ⟨b, o', h4, h5⟩ := h3 (by simp)
  injection h1 with e0 e1 e2
  subst e0
  injection h4 with e3
  injection e3 with e4 e5
  subst e4 e5
  obtain ⟨u, h6, h7, h8⟩ := h5 (i + 1) y (by simpa using hy)
  refine ⟨u, h6, h7, fun j z hz => ?_⟩
  have := h8 j z hz
  rw [show o + 2 + i * 2 + j = o + (i + 1) * 2 + j by omega]; exact this
theorem sl_rest {w : World} {g o n c : Nat} {x : Rn} {xs : List Rn} (h : Sl 2 QR w (.slice (some ⟨g, o, none⟩) (n + 1) c) (x :: xs)) : Sl 2 QR w (.slice (if c = 1 then some ⟨g, o, none⟩ else some ⟨g, o + 2, none⟩) n (c - 1)) xs := by
  by_cases hc : c = 1
  · rw [if_pos hc]
    have hn := h.at_
    simp only [List.length_cons] at hn
    obtain rfl : xs = [] := List.eq_nil_of_length_eq_zero (by omega)
    obtain rfl : n = 0 := by simpa using hn.1
    exact ⟨_, _, rfl, Nat.zero_le _, fun h => absurd h (Nat.lt_irrefl 0)⟩
  · rw [if_neg hc]; exact sl_tail h
theorem meetL_nil (a : List Rn) : meetL a [] = [] := by cases a <;> rw [meetL]
theorem meetL_le {r s : Rn} {a c xs R : List Rn} (h : xs ++ meetL (r :: a) (s :: c) = R) (x y : Int) (hx : x = max r.1 s.1) (hy : y = min r.2 s.2) :
    (r.2 < s.2 → (xs ++ one x y) ++ meetL a (s :: c) = R) ∧ (¬ r.2 < s.2 → (xs ++ one x y) ++ meetL (r :: a) c = R) := by
  subst hx hy
  rw [meetL] at h
  refine ⟨fun k => ?_, fun k => ?_⟩
  · rw [if_pos k] at h; rw [List.append_assoc]; exact h
  · rw [if_neg k] at h; rw [List.append_assoc]; exact h
def lenR : Value → Nat
  | .slice _ n _ => n
  | _ => 0
set_option maxRecDepth 20000 in
set_option maxHeartbeats 2000000 in
theorem meet_new (v1 v2 : Value) (l1 l2 : List Rn) (w : World) (h1 : Sl 2 QR w v1 l1) (h2 : Sl 2 QR w v2 l2) (hl1 : l1.length ≤ 1100000) (hl2 : l2.length ≤ 1100000) (hb1 : Bd l1) (hb2 : Bd l2) :
    Calls Try.prog 63 #[v1, v2] w (RetF (meet l1 l2) w) := by
  obtain ⟨A1, c1, rfl⟩ := h1.form
  obtain ⟨A2, c2, rfl⟩ := h2.form
  have RA := Lib.hid (fun b (e : right l1 = b) => right_at h1 hl1 hb1 e)
  have RB := Lib.hid (fun b (e : right l2 = b) => right_at h2 hl2 hb2 e)
  by_cases hr : right l1 = true ∧ right l2 = true
  · have RA1 := Lib.hid (RA.out _ hr.1)
    have RB1 := Lib.hid (RB.out _ hr.2)
    obtain ⟨R, hR⟩ : ∃ R, R = meetL l1 l2 := ⟨_, rfl⟩
    have e : meet l1 l2 = R := by rw [← meet_is hr.1 hr.2, hR]
    rw [e]
    obtain ⟨n1, hn1⟩ : ∃ n, n = l1.length := ⟨_, rfl⟩
    obtain ⟨n2, hn2⟩ : ∃ n, n = l2.length := ⟨_, rfl⟩
    rw [← hn1] at h1 hl1 RA1 ⊢
    rw [← hn2] at h2 hl2 RB1 ⊢
    have H1 := Lib.hid h1
    have H2 := Lib.hid h2
    have N1 := Lib.hid hn1
    have N2 := Lib.hid hn2
    have HR := Lib.hid hR
    have WF := Lib.hid (fun (A : Option Addr) (m c : Nat) (xs : List Rn) (a b : Int) (W : World) (h : Rw w W (.slice A m c) xs) (hl : xs.length ≤ 8000000) => withFull_any (.slice A m c) xs a b W h hl)
    clear h1 h2 hn1 hn2 hb1 hb2 hR e hr RA RB
    go_enter Try.func63, Try.ntmps63
    go_wp2_with (first
      | (go_at_call 58; (with_reducible refine (RA1.out _ (Since.refl _)).mono ?_); rintro e w1 ⟨rfl, k1⟩)
      | (go_at_call 58; (with_reducible refine (RB1.out _ k1).mono ?_); rintro e w2 ⟨rfl, k2⟩))
    go_loopw [0, 1, 5] (fun va vb s wr => ∃ (B1 B2 A : Option Addr) (p q d1 d2 m c : Nat) (la lb xs : List Rn), va = .slice B1 p d1 ∧ vb = .slice B2 q d2 ∧ s = .slice A m c ∧ m + p + q ≤ 2200000 ∧ Hid (la.length = p) ∧ Hid (lb.length = q) ∧ Hid (xs.length = m) ∧ Hid (Sl 2 QR w (.slice B1 p d1) la) ∧ Hid (Sl 2 QR w (.slice B2 q d2) lb) ∧ Hid (Rw w wr (.slice A m c) xs) ∧ Hid (xs ++ meetL la lb = R)) (fun va vb _ _ => lenR va + lenR vb)
    case atStart => exact ⟨A1, A2, none, n1, n2, c1, c2, 0, 0, l1, l2, [], rfl, rfl, rfl, by omega, N1.out.symm, N2.out.symm, rfl, H1.out, H2.out, .nil (k1.trans k2), HR.out.symm⟩
    case round =>
      obtain ⟨B1, B2, A, p, q, d1, d2, m, c, la, lb, xs, rfl, rfl, rfl, hmb, P1, P2, HX, S1, S2, HW, HE⟩ := hrel
      clear H1 H2 N1 N2
      by_cases hp : p = 0
      · subst hp
        have hla : la = [] := List.eq_nil_of_length_eq_zero P1.out
        have HE2 := Lib.hid (show xs = R by rw [← HE.out, hla, meetL, List.append_nil])
        go_wp2
        go_ret
        exact .of HE2.out HX.out HW.out
      · by_cases hq : q = 0
        · subst hq
          have hlb : lb = [] := List.eq_nil_of_length_eq_zero P2.out
          have HE2 := Lib.hid (show xs = R by rw [← HE.out, hlb, meetL_nil, List.append_nil])
          have hp0 : 0 < p := by omega
          go_wp2
          go_ret
          exact .of HE2.out HX.out HW.out
        · obtain ⟨p, rfl⟩ : ∃ k, p = k + 1 := ⟨p - 1, by omega⟩
          obtain ⟨q, rfl⟩ : ∃ k, q = k + 1 := ⟨q - 1, by omega⟩
          obtain ⟨r, ta, rfl⟩ : ∃ r ta, la = r :: ta := List.exists_cons_of_length_eq_add_one P1.out
          obtain ⟨s, tb, rfl⟩ : ∃ r ta, lb = r :: ta := List.exists_cons_of_length_eq_add_one P2.out
          obtain ⟨g1, o1, rfl, e0, e1⟩ := elR S1.out (i := 0) (by simp)
          obtain ⟨g2, o2, rfl, f0, f1⟩ := elR S2.out (i := 0) (by simp)
          simp only [List.getElem_cons_zero, Nat.zero_mul, Nat.add_zero] at e0 e1 f0 f1
          have hst := meetL_le HE.out
          obtain ⟨r0, r1⟩ := r
          obtain ⟨s0, s1⟩ := s
          simp only at hst e0 e1 f0 f1
          have ST := Lib.hid hst
          have up : ∀ {W : World}, Since w W → ∀ {a : Addr} {u : Value}, w.cell? a = some u → W.cell? a = some u := fun k _ _ g => (k.cell _ (World.block_lt_of_cell? _ _ g)).trans g
          have HC := Lib.hid (fun W (k : Since w W) => (show W.cell? ⟨g1, o1, none⟩ = some (.int .i64 r0) ∧ W.cell? ⟨g1, o1 + 1, none⟩ = some (.int .i64 r1) ∧ W.cell? ⟨g2, o2, none⟩ = some (.int .i64 s0) ∧ W.cell? ⟨g2, o2 + 1, none⟩ = some (.int .i64 s1) from ⟨up k e0, up k e1, up k f0, up k f1⟩))
          have HCr := Lib.hid (fun W (k : Since wr W) => HC.out W (HW.out.2.trans k))
          have LN := Lib.hid (fun (a b : Int) => show (xs ++ one a b).length ≤ m + 1 from HX.out ▸ app_len xs a b)
          have hxl : xs.length ≤ 8000000 := by have := HX.out; omega
          have T1 := Lib.hid (sl_rest S1.out)
          have T2 := Lib.hid (sl_rest S2.out)
          have L1 := Lib.hid (show ta.length = p by have := P1.out; simp at this; omega)
          have L2 := Lib.hid (show tb.length = q by have := P2.out; simp at this; omega)
          clear hst up e0 e1 f0 f1 HE hp hq
          go_wp2
          have hr0 : Since wr wr.drew := Since.drew (Since.refl wr)
          refine wp_region_noPanic ?_
          refine Reg.wp_region_G (S := fun _ => True) (fun j => [19, 20].contains j) (by kernel_rfl) trivial ?_
          refine' Reg.tk3 (i := 0) (v := _) (some 22) [19, 20] [19, 20] rfl (Or.inl ⟨by rfl, Or.inl ?hy2⟩) ?rest2
          case hy2 => (intro w' kk ss; obtain ⟨x0, x1, y0, y1⟩ := HCr.out _ (hr0.trans kk); go_simp; first | done | with_reducible rfl)
          try simp only [Act.put, List.setIfInBounds_toArray, List.set_cons_zero, List.set_cons_succ]
          refine' Reg.tk3 (i := 1) (v := _) (some 23) [2, 3, 4, 9, 19, 20] [19, 20] rfl (Or.inl ⟨by rfl, Or.inl ?hy3⟩) ?rest3
          case hy3 => (intro w' kk ss; obtain ⟨x0, x1, y0, y1⟩ := HCr.out _ (hr0.trans kk); go_simp; first | done | with_reducible rfl)
          try simp only [Act.put, List.setIfInBounds_toArray, List.set_cons_zero, List.set_cons_succ]
          refine' Reg.tk3 (i := 2) (v := _) (some 24) [3, 4, 9, 19, 20] [19, 20] rfl (Or.inl ⟨by rfl, Or.inl ?hy4⟩) ?rest4
          case hy4 => (intro w' kk ss; obtain ⟨x0, x1, y0, y1⟩ := HCr.out _ (hr0.trans kk); go_simp; first | done | with_reducible rfl)
          try simp only [Act.put, List.setIfInBounds_toArray, List.set_cons_zero, List.set_cons_succ]
          refine' Reg.tk3 (i := 3) (v := _) (some 25) [4, 9, 19, 20] [19, 20] rfl (Or.inl ⟨by rfl, Or.inl ?hy5⟩) ?rest5
          case hy5 => (intro w' kk ss; obtain ⟨x0, x1, y0, y1⟩ := HCr.out _ (hr0.trans kk); go_simp; first | done | with_reducible rfl)
          try simp only [Act.put, List.setIfInBounds_toArray, List.set_cons_zero, List.set_cons_succ]
          refine' Reg.tk3 (i := 4) (v := _) (some 26) [9, 19, 20] [19, 20] rfl (Or.inl ⟨by rfl, Or.inl ?hy6⟩) ?rest6
          case hy6 => (intro w' kk ss; obtain ⟨x0, x1, y0, y1⟩ := HCr.out _ (hr0.trans kk); go_simp; first | done | with_reducible rfl)
          try simp only [Act.put, List.setIfInBounds_toArray, List.set_cons_zero, List.set_cons_succ]
          refine' Reg.tk3 (i := 5) (v := _) (some 27) [6, 7, 8, 9, 19, 20] [19, 20] rfl (Or.inl ⟨by rfl, Or.inl ?hy7⟩) ?rest7
          case hy7 => (intro w' kk ss; obtain ⟨x0, x1, y0, y1⟩ := HCr.out _ (hr0.trans kk); go_simp; first | done | with_reducible rfl)
          try simp only [Act.put, List.setIfInBounds_toArray, List.set_cons_zero, List.set_cons_succ]
          refine' Reg.tk3 (i := 6) (v := _) (some 28) [7, 8, 9, 19, 20] [19, 20] rfl (Or.inl ⟨by rfl, Or.inl ?hy8⟩) ?rest8
          case hy8 => (intro w' kk ss; obtain ⟨x0, x1, y0, y1⟩ := HCr.out _ (hr0.trans kk); go_simp; first | done | with_reducible rfl)
          try simp only [Act.put, List.setIfInBounds_toArray, List.set_cons_zero, List.set_cons_succ]
          refine' Reg.tk3 (i := 7) (v := _) (some 29) [8, 9, 19, 20] [19, 20] rfl (Or.inl ⟨by rfl, Or.inl ?hy9⟩) ?rest9
          case hy9 => (intro w' kk ss; obtain ⟨x0, x1, y0, y1⟩ := HCr.out _ (hr0.trans kk); go_simp; first | done | with_reducible rfl)
          try simp only [Act.put, List.setIfInBounds_toArray, List.set_cons_zero, List.set_cons_succ]
          refine' Reg.tk3 (i := 8) (v := _) (some 30) [9, 19, 20] [19, 20] rfl (Or.inl ⟨by rfl, Or.inl ?hy10⟩) ?rest10
          case hy10 => (intro w' kk ss; obtain ⟨x0, x1, y0, y1⟩ := HCr.out _ (hr0.trans kk); go_simp; first | done | with_reducible rfl)
          try simp only [Act.put, List.setIfInBounds_toArray, List.set_cons_zero, List.set_cons_succ]
          refine' Reg.tk3 (i := 9) (v := _) (some 31) [19, 20] [19, 20] rfl (Or.inl ⟨by rfl, Or.inl ?hy11⟩) ?rest11
          case hy11 => (intro w' kk ss; obtain ⟨x0, x1, y0, y1⟩ := HCr.out _ (hr0.trans kk); go_simp; first | done | with_reducible rfl)
          try simp only [Act.put, List.setIfInBounds_toArray, List.set_cons_zero, List.set_cons_succ]
          refine' Reg.tk3 (i := 10) (v := _) (some 32) [11, 12, 13, 18, 19, 20] [19, 20] rfl (Or.inl ⟨by rfl, Or.inl ?hy12⟩) ?rest12
          case hy12 => (intro w' kk ss; obtain ⟨x0, x1, y0, y1⟩ := HCr.out _ (hr0.trans kk); go_simp; first | done | with_reducible rfl)
          try simp only [Act.put, List.setIfInBounds_toArray, List.set_cons_zero, List.set_cons_succ]
          refine' Reg.tk3 (i := 11) (v := _) (some 33) [12, 13, 18, 19, 20] [19, 20] rfl (Or.inl ⟨by rfl, Or.inl ?hy13⟩) ?rest13
          case hy13 => (intro w' kk ss; obtain ⟨x0, x1, y0, y1⟩ := HCr.out _ (hr0.trans kk); go_simp; first | done | with_reducible rfl)
          try simp only [Act.put, List.setIfInBounds_toArray, List.set_cons_zero, List.set_cons_succ]
          refine' Reg.tk3 (i := 12) (v := _) (some 34) [13, 18, 19, 20] [19, 20] rfl (Or.inl ⟨by rfl, Or.inl ?hy14⟩) ?rest14
          case hy14 => (intro w' kk ss; obtain ⟨x0, x1, y0, y1⟩ := HCr.out _ (hr0.trans kk); go_simp; first | done | with_reducible rfl)
          try simp only [Act.put, List.setIfInBounds_toArray, List.set_cons_zero, List.set_cons_succ]
          refine' Reg.tk3 (i := 13) (v := _) (some 35) [18, 19, 20] [19, 20] rfl (Or.inl ⟨by rfl, Or.inl ?hy15⟩) ?rest15
          case hy15 => (intro w' kk ss; obtain ⟨x0, x1, y0, y1⟩ := HCr.out _ (hr0.trans kk); go_simp; first | done | with_reducible rfl)
          try simp only [Act.put, List.setIfInBounds_toArray, List.set_cons_zero, List.set_cons_succ]
          refine' Reg.tk3 (i := 14) (v := _) (some 36) [15, 16, 17, 18, 19, 20] [19, 20] rfl (Or.inl ⟨by rfl, Or.inl ?hy16⟩) ?rest16
          case hy16 => (intro w' kk ss; obtain ⟨x0, x1, y0, y1⟩ := HCr.out _ (hr0.trans kk); go_simp; first | done | with_reducible rfl)
          try simp only [Act.put, List.setIfInBounds_toArray, List.set_cons_zero, List.set_cons_succ]
          refine' Reg.tk3 (i := 15) (v := _) (some 37) [16, 17, 18, 19, 20] [19, 20] rfl (Or.inl ⟨by rfl, Or.inl ?hy17⟩) ?rest17
          case hy17 => (intro w' kk ss; obtain ⟨x0, x1, y0, y1⟩ := HCr.out _ (hr0.trans kk); go_simp; first | done | with_reducible rfl)
          try simp only [Act.put, List.setIfInBounds_toArray, List.set_cons_zero, List.set_cons_succ]
          refine' Reg.tk3 (i := 16) (v := _) (some 38) [17, 18, 19, 20] [19, 20] rfl (Or.inl ⟨by rfl, Or.inl ?hy18⟩) ?rest18
          case hy18 => (intro w' kk ss; obtain ⟨x0, x1, y0, y1⟩ := HCr.out _ (hr0.trans kk); go_simp; first | done | with_reducible rfl)
          try simp only [Act.put, List.setIfInBounds_toArray, List.set_cons_zero, List.set_cons_succ]
          refine' Reg.tk3 (i := 17) (v := _) (some 39) [18, 19, 20] [19, 20] rfl (Or.inl ⟨by rfl, Or.inl ?hy19⟩) ?rest19
          case hy19 => (intro w' kk ss; obtain ⟨x0, x1, y0, y1⟩ := HCr.out _ (hr0.trans kk); go_simp; first | done | with_reducible rfl)
          try simp only [Act.put, List.setIfInBounds_toArray, List.set_cons_zero, List.set_cons_succ]
          refine' Reg.tk3 (i := 18) (v := _) (some 40) [19, 20] [19, 20] rfl (Or.inl ⟨by rfl, Or.inl ?hy20⟩) ?rest20
          case hy20 => (intro w' kk ss; obtain ⟨x0, x1, y0, y1⟩ := HCr.out _ (hr0.trans kk); go_simp; first | done | with_reducible rfl)
          try simp only [Act.put, List.setIfInBounds_toArray, List.set_cons_zero, List.set_cons_succ]
          refine Reg.wpG_ready (rs := [19]) (by kernel_rfl) (by simp) (fun wq k1001' sq => ?_)
          have hr0 := hr0.trans k1001'
          refine Reg.AllG.last (o := { dst := some 41, op := Op.call { callee := Callee.value (Operand.func 112), args := #[Operand.tmp 22, Operand.tmp 31, Operand.tmp 40], argTypes := #[33, 2, 2] }, type := 33, pos := "part.go:41", after := #[{ on := 0, ground := Ground.data }, { on := 9, ground := Ground.data }, { on := 18, ground := Ground.data }], guard := none }) rfl (by rfl) (fun K hK => ?_) Reg.AllG.nil
          go_simp
          (with_reducible refine (WF.out _ _ _ xs _ _ wq (HW.out.since hr0) hxl).mono ?_)
          rintro e yw ⟨A3, m3, c3, rfl, hm3, h3, -⟩
          refine hK.out _ _ trivial (fun hHeld => ?_)
          clear hK K
          try simp only [Act.put, List.setIfInBounds_toArray, List.set_cons_zero, List.set_cons_succ]
          refine' Reg.ah3 (i := 20) (v := _) (some 5) rfl (by kernel_rfl) (by kernel_rfl) (by kernel_rfl) (fun _ _ _ h => h) (Or.inl ⟨by rfl, ?hy21⟩) (by assumption) ?rest21
          case hy21 => (intro w' ss; (try dsimp only at ss); go_simp; first | done | with_reducible rfl)
          try simp only [Act.put, List.setIfInBounds_toArray, List.set_cons_zero, List.set_cons_succ]
          refine wpAnyH_done (by kernel_rfl) ?_ _
          refine NoPanic.normal ?_
          have hm4 : m3 ≤ m + 1 := (by rw [← hm3]; exact LN.out _ _)
          have HCw := Lib.hid (fun W (k : Since _ W) => HC.out W (h3.2.trans k))
          have ST2 := Lib.hid (ST.out _ _ (show (if r0 < s0 then s0 else r0) = max r0 s0 by split <;> omega) (show (if s1 < r1 then s1 else r1) = min r1 s1 by split <;> omega))
          generalize (if r0 < s0 then s0 else r0) = M1 at *
          generalize (if s1 < r1 then s1 else r1) = M2 at *
          obtain ⟨ys, hys⟩ : ∃ ys, ys = xs ++ one M1 M2 := ⟨_, rfl⟩
          rw [← hys] at hm3 h3 ST2
          have H3 := Lib.hid h3
          have HCy := Lib.hid (fun W (k : Since yw W) => HC.out W (h3.2.trans k))
          clear hr0 HCr WF LN hxl ST hys h3 hHeld sq HCw
          go_wp2
          have hsz0 := hmb
          by_cases c1 : r1 < s1
          · have hr0 : Since yw yw.drew := Since.drew (Since.refl yw)
            refine wp_region_noPanic ?_
            refine Reg.wp_region_G (S := fun _ => True) (fun j => [].contains j) (by kernel_rfl) trivial ?_
            refine' Reg.tk3 (i := 0) (v := _) (some 42) [1, 2, 3, 8] [] rfl (Or.inl ⟨by rfl, Or.inl ?hy23⟩) ?rest23
            case hy23 => (intro w' kk ss; obtain ⟨x0, x1, y0, y1⟩ := HCy.out _ (hr0.trans kk); go_simp; first | done | with_reducible rfl)
            try simp only [Act.put, List.setIfInBounds_toArray, List.set_cons_zero, List.set_cons_succ]
            refine' Reg.tk3 (i := 1) (v := _) (some 43) [2, 3, 8] [] rfl (Or.inl ⟨by rfl, Or.inl ?hy24⟩) ?rest24
            case hy24 => (intro w' kk ss; obtain ⟨x0, x1, y0, y1⟩ := HCy.out _ (hr0.trans kk); go_simp; first | done | with_reducible rfl)
            try simp only [Act.put, List.setIfInBounds_toArray, List.set_cons_zero, List.set_cons_succ]
            refine' Reg.tk3 (i := 2) (v := _) (some 44) [3, 8] [] rfl (Or.inl ⟨by rfl, Or.inl ?hy25⟩) ?rest25
            case hy25 => (intro w' kk ss; obtain ⟨x0, x1, y0, y1⟩ := HCy.out _ (hr0.trans kk); go_simp; first | done | with_reducible rfl)
            try simp only [Act.put, List.setIfInBounds_toArray, List.set_cons_zero, List.set_cons_succ]
            refine' Reg.tk3 (i := 3) (v := _) (some 45) [8] [] rfl (Or.inl ⟨by rfl, Or.inl ?hy26⟩) ?rest26
            case hy26 => (intro w' kk ss; obtain ⟨x0, x1, y0, y1⟩ := HCy.out _ (hr0.trans kk); go_simp; first | done | with_reducible rfl)
            try simp only [Act.put, List.setIfInBounds_toArray, List.set_cons_zero, List.set_cons_succ]
            refine' Reg.tk3 (i := 4) (v := _) (some 46) [5, 6, 7, 8] [] rfl (Or.inl ⟨by rfl, Or.inl ?hy27⟩) ?rest27
            case hy27 => (intro w' kk ss; obtain ⟨x0, x1, y0, y1⟩ := HCy.out _ (hr0.trans kk); go_simp; first | done | with_reducible rfl)
            try simp only [Act.put, List.setIfInBounds_toArray, List.set_cons_zero, List.set_cons_succ]
            refine' Reg.tk3 (i := 5) (v := _) (some 47) [6, 7, 8] [] rfl (Or.inl ⟨by rfl, Or.inl ?hy28⟩) ?rest28
            case hy28 => (intro w' kk ss; obtain ⟨x0, x1, y0, y1⟩ := HCy.out _ (hr0.trans kk); go_simp; first | done | with_reducible rfl)
            try simp only [Act.put, List.setIfInBounds_toArray, List.set_cons_zero, List.set_cons_succ]
            refine' Reg.tk3 (i := 6) (v := _) (some 48) [7, 8] [] rfl (Or.inl ⟨by rfl, Or.inl ?hy29⟩) ?rest29
            case hy29 => (intro w' kk ss; obtain ⟨x0, x1, y0, y1⟩ := HCy.out _ (hr0.trans kk); go_simp; first | done | with_reducible rfl)
            try simp only [Act.put, List.setIfInBounds_toArray, List.set_cons_zero, List.set_cons_succ]
            refine' Reg.tk3 (i := 7) (v := _) (some 49) [8] [] rfl (Or.inl ⟨by rfl, Or.inl ?hy30⟩) ?rest30
            case hy30 => (intro w' kk ss; obtain ⟨x0, x1, y0, y1⟩ := HCy.out _ (hr0.trans kk); go_simp; first | done | with_reducible rfl)
            try simp only [Act.put, List.setIfInBounds_toArray, List.set_cons_zero, List.set_cons_succ]
            refine' Reg.tk3 (i := 8) (v := _) (some 50) [] [] rfl (Or.inl ⟨by rfl, Or.inl ?hy31⟩) ?rest31
            case hy31 => (intro w' kk ss; obtain ⟨x0, x1, y0, y1⟩ := HCy.out _ (hr0.trans kk); go_simp; first | done | with_reducible rfl)
            try simp only [Act.put, List.setIfInBounds_toArray, List.set_cons_zero, List.set_cons_succ]
            refine Reg.wpG_done (by kernel_rfl) (fun we ke se => ?_) _
            refine NoPanic.normal ?_
            have hr0 := hr0.trans ke
            clear ke
            have HE2 := Lib.hid (ST2.out.1 c1)
            clear ST2
            go_wp2
            go_roundw
            case rel => exact ⟨_, _, A3, p, q + 1, _, _, m3, c3, ta, (s0, s1) :: tb, ys, rfl, rfl, rfl, by omega, L1.out, congrArg (· + 1) L2.out, hm3, T1.out, S2.out, H3.out.since hr0, HE2.out⟩
            case measure => simp [lenR]; try omega
          · have hr0 : Since yw yw.drew := Since.drew (Since.refl yw)
            refine wp_region_noPanic ?_
            refine Reg.wp_region_G (S := fun _ => True) (fun j => [].contains j) (by kernel_rfl) trivial ?_
            refine' Reg.tk3 (i := 0) (v := _) (some 42) [1, 2, 3, 8] [] rfl (Or.inl ⟨by rfl, Or.inl ?hy33⟩) ?rest33
            case hy33 => (intro w' kk ss; obtain ⟨x0, x1, y0, y1⟩ := HCy.out _ (hr0.trans kk); go_simp; first | done | with_reducible rfl)
            try simp only [Act.put, List.setIfInBounds_toArray, List.set_cons_zero, List.set_cons_succ]
            refine' Reg.tk3 (i := 1) (v := _) (some 43) [2, 3, 8] [] rfl (Or.inl ⟨by rfl, Or.inl ?hy34⟩) ?rest34
            case hy34 => (intro w' kk ss; obtain ⟨x0, x1, y0, y1⟩ := HCy.out _ (hr0.trans kk); go_simp; first | done | with_reducible rfl)
            try simp only [Act.put, List.setIfInBounds_toArray, List.set_cons_zero, List.set_cons_succ]
            refine' Reg.tk3 (i := 2) (v := _) (some 44) [3, 8] [] rfl (Or.inl ⟨by rfl, Or.inl ?hy35⟩) ?rest35
            case hy35 => (intro w' kk ss; obtain ⟨x0, x1, y0, y1⟩ := HCy.out _ (hr0.trans kk); go_simp; first | done | with_reducible rfl)
            try simp only [Act.put, List.setIfInBounds_toArray, List.set_cons_zero, List.set_cons_succ]
            refine' Reg.tk3 (i := 3) (v := _) (some 45) [8] [] rfl (Or.inl ⟨by rfl, Or.inl ?hy36⟩) ?rest36
            case hy36 => (intro w' kk ss; obtain ⟨x0, x1, y0, y1⟩ := HCy.out _ (hr0.trans kk); go_simp; first | done | with_reducible rfl)
            try simp only [Act.put, List.setIfInBounds_toArray, List.set_cons_zero, List.set_cons_succ]
            refine' Reg.tk3 (i := 4) (v := _) (some 46) [5, 6, 7, 8] [] rfl (Or.inl ⟨by rfl, Or.inl ?hy37⟩) ?rest37
            case hy37 => (intro w' kk ss; obtain ⟨x0, x1, y0, y1⟩ := HCy.out _ (hr0.trans kk); go_simp; first | done | with_reducible rfl)
            try simp only [Act.put, List.setIfInBounds_toArray, List.set_cons_zero, List.set_cons_succ]
            refine' Reg.tk3 (i := 5) (v := _) (some 47) [6, 7, 8] [] rfl (Or.inl ⟨by rfl, Or.inl ?hy38⟩) ?rest38
            case hy38 => (intro w' kk ss; obtain ⟨x0, x1, y0, y1⟩ := HCy.out _ (hr0.trans kk); go_simp; first | done | with_reducible rfl)
            try simp only [Act.put, List.setIfInBounds_toArray, List.set_cons_zero, List.set_cons_succ]
            refine' Reg.tk3 (i := 6) (v := _) (some 48) [7, 8] [] rfl (Or.inl ⟨by rfl, Or.inl ?hy39⟩) ?rest39
            case hy39 => (intro w' kk ss; obtain ⟨x0, x1, y0, y1⟩ := HCy.out _ (hr0.trans kk); go_simp; first | done | with_reducible rfl)
            try simp only [Act.put, List.setIfInBounds_toArray, List.set_cons_zero, List.set_cons_succ]
            refine' Reg.tk3 (i := 7) (v := _) (some 49) [8] [] rfl (Or.inl ⟨by rfl, Or.inl ?hy40⟩) ?rest40
            case hy40 => (intro w' kk ss; obtain ⟨x0, x1, y0, y1⟩ := HCy.out _ (hr0.trans kk); go_simp; first | done | with_reducible rfl)
            try simp only [Act.put, List.setIfInBounds_toArray, List.set_cons_zero, List.set_cons_succ]
            refine' Reg.tk3 (i := 8) (v := _) (some 50) [] [] rfl (Or.inl ⟨by rfl, Or.inl ?hy41⟩) ?rest41
            case hy41 => (intro w' kk ss; obtain ⟨x0, x1, y0, y1⟩ := HCy.out _ (hr0.trans kk); go_simp; first | done | with_reducible rfl)
            try simp only [Act.put, List.setIfInBounds_toArray, List.set_cons_zero, List.set_cons_succ]
            refine Reg.wpG_done (by kernel_rfl) (fun we ke se => ?_) _
            refine NoPanic.normal ?_
            have hr0 := hr0.trans ke
            clear ke
            have HE2 := Lib.hid (ST2.out.2 (Int.not_lt.1 c1))
            clear ST2
            go_wp2
            go_roundw
            case rel => exact ⟨_, _, A3, p + 1, q, _, _, m3, c3, (r0, r1) :: ta, tb, ys, rfl, rfl, rfl, by omega, congrArg (· + 1) L1.out, L2.out, hm3, S1.out, T2.out, H3.out.since hr0, HE2.out⟩
            case measure => simp [lenR]; try omega
  · have E := Lib.hid (show meet l1 l2 = [] by rw [meet, if_neg (by simpa using hr)])
    cases hr1 : right l1 with
    | false =>
      have RA1 := Lib.hid (RA.out _ hr1)
      clear h1 h2 hb1 hb2 hr hr1 RA RB
      go_enter Try.func63, Try.ntmps63
      go_wp2_with (go_at_call 58; (with_reducible refine (RA1.out _ (Since.refl _)).mono ?_); rintro e w1 ⟨rfl, k1⟩)
      go_ret
      exact .none E.out k1
    | true =>
      have hr2 : right l2 = false := by cases h : right l2; rfl; exact absurd ⟨hr1, h⟩ hr
      have RA1 := Lib.hid (RA.out _ hr1)
      have RB1 := Lib.hid (RB.out _ hr2)
      clear h1 h2 hb1 hb2 hr hr1 hr2 RA RB
      go_enter Try.func63, Try.ntmps63
      go_wp2_with (first
        | (go_at_call 58; (with_reducible refine (RA1.out _ (Since.refl _)).mono ?_); rintro e w1 ⟨rfl, k1⟩)
        | (go_at_call 58; (with_reducible refine (RB1.out _ k1).mono ?_); rintro e w2 ⟨rfl, k2⟩))
      go_ret
      exact .none E.out (k1.trans k2)
end Go.Proofs.Ytalcgjkegohhgaa.Zs
