/- Layer 14 (arith): the landed loseNearer, same. -/
import Derived.Test.YtalcgjkegohhgaaQf
import Derived.Test.YtalcgjkegohhgaaEi
namespace Go.Proofs.Ytalcgjkegohhgaa.At
open Go.RowKit
set_option linter.unusedVariables false
set_option linter.unusedSimpArgs false
open Go.Proofs.Ytalcgjkegohhgaa.Num Go.Proofs.Ytalcgjkegohhgaa.Dig Go.Proofs.Ytalcgjkegohhgaa.Lx Go.Proofs.Ytalcgjkegohhgaa.Tk Go.Proofs.Ytalcgjkegohhgaa.Ti Go.Proofs.Ytalcgjkegohhgaa.Zs Go.Proofs.Ytalcgjkegohhgaa.Tr Go.Proofs.Ytalcgjkegohhgaa.Sn Go.Proofs.Ytalcgjkegohhgaa.Ln
def RetW (ys : List Rn) (w : World) (e : Ending) (w' : World) : Prop := ∃ A m c, e = .returned (.slice A m c) ∧ ys.length = m ∧ Rw w w' (.slice A m c) ys
theorem RetW.of {ys xs : List Rn} {w w' : World} {A : Option Addr} {m c : Nat} (h : xs = ys) (hm : xs.length = m) (k : Rw w w' (.slice A m c) xs) : RetW ys w (.returned (.slice A m c)) w' := by
  subst h; exact ⟨A, m, c, rfl, hm, k⟩
theorem RetW.none {ys : List Rn} {w w' : World} (h : ys = []) (k : Since w w') : RetW ys w (.returned (.slice .none 0 0)) w' := by
  subst h; exact ⟨.none, 0, 0, rfl, rfl, Rw.nil k⟩
set_option maxRecDepth 20000 in
set_option maxHeartbeats 1000000 in
theorem cut_rw (v : Value) (l : List Rn) (lo hi : Int) (w : World) (h : Sl 2 QR w v l) (hl : l.length ≤ 1100000) (hb : Bd l) :
    Calls Try.prog 188 #[v, .int .i64 lo, .int .i64 hi] w (RetW (cut l lo hi) w) := by
  obtain ⟨A, c, rfl⟩ := h.form
  cases hr : right l with
  | false =>
    have RA := Lib.hid (right_at h hl hb hr)
    have e : cut l lo hi = [] := by rw [cut, if_neg (by simp [hr])]
    have E := Lib.hid e
    clear h hb hr e
    go_enter Try.func188, Try.ntmps188
    go_wp2_with (go_at_call 58; (with_reducible refine (RA.out _ (Since.refl _)).mono ?_); rintro e w1 ⟨rfl, k1⟩)
    go_ret
    exact RetW.none E.out k1
  | true =>
    have RA := Lib.hid (right_at h hl hb hr)
    obtain ⟨R, hR⟩ : ∃ R, R = cutF l lo hi := ⟨_, rfl⟩
    have e : cut l lo hi = R := by rw [cut, if_pos hr, hR]
    rw [e]
    obtain ⟨n, hn⟩ : ∃ n, n = l.length := ⟨_, rfl⟩
    rw [← hn] at h hl RA ⊢
    have H := Lib.hid h
    have HN := Lib.hid hn
    have HR := Lib.hid hR
    have WF := Lib.hid (fun (w0 : World) (A : Option Addr) (m c : Nat) (xs : List Rn) (a b : Int) (W : World) (h : Rw w0 W (.slice A m c) xs) (hl : xs.length ≤ 8000000) => withFull_any (.slice A m c) xs a b W h hl)
    clear h hn hb hR e hr
    go_enter Try.func188, Try.ntmps188
    go_wp2_with (go_at_call 58; (with_reducible refine (RA.out _ (Since.refl _)).mono ?_); rintro e w1 ⟨rfl, k1⟩)
    go_loopw [7, 15] (fun s i wr => ∃ (k : Nat) (A : Option Addr) (m c : Nat) (xs : List Rn), i = .int .i64 (k : Int) ∧ s = .slice A m c ∧ k ≤ n ∧ m ≤ k ∧ Hid (xs.length = m) ∧ Hid (Rw w wr (.slice A m c) xs) ∧ Hid (xs ++ cutF (l.drop k) lo hi = R)) (fun _ i _ => n - (intOf i).toNat)
    case atStart => exact ⟨0, none, 0, 0, [], rfl, rfl, Nat.zero_le _, Nat.le_refl _, rfl, .nil k1, HR.out.symm⟩
    case round =>
      obtain ⟨k, A2, m, c2, xs, rfl, rfl, hk, hm, HX, HW, HE⟩ := hrel
      by_cases hkn : k < n
      · have hkl : k < l.length := by have := HN.out; omega
        obtain ⟨g, o, rfl, e0, e1⟩ := elR (H.out.since stR HW.out.2) hkl
        have hst := HE.out
        rw [drop_at hkl, cutF, ← List.append_assoc] at hst
        generalize l[k] = y at *
        obtain ⟨lo0, hi0⟩ := y
        simp only at hst e0 e1
        have ka := Lib.hid (since_alloc wr (.cells #[.int .i64 lo0, .int .i64 hi0] 78))
        have ST := Lib.hid (fun (a b : Int) (ha : a = max lo lo0) (hb : b = min hi hi0) => show (xs ++ one a b) ++ cutF (l.drop (k + 1)) lo hi = R by rw [ha, hb]; exact hst)
        have WB := Lib.hid (fun (a b : Int) => WF.out w A2 m c2 xs a b _ (HW.out.since ka.out) (by have := HX.out; omega))
        have LN := Lib.hid (fun (a b : Int) => show (xs ++ one a b).length ≤ m + 1 from HX.out ▸ app_len xs a b)
        obtain ⟨r0, r1⟩ := (Bx.fresh wr #[.int .i64 lo0, .int .i64 hi0] 78).two
        clear hst hkl HE WF
        by_cases c1 : lo0 < lo <;> by_cases c2 : hi < hi0
        all_goals (
          go_wp2_with (go_at_call 112; (with_reducible refine (WB.out _ _).mono ?_); rintro e w2 ⟨A3, m3, c3, rfl, hm3, h3, -⟩; have hm4 : m3 ≤ m + 1 := (by rw [← hm3]; exact LN.out _ _))
          go_roundw)
        all_goals first
          | exact ⟨k + 1, A3, m3, c3, _, by go_num, rfl, by omega, by omega, hm3, h3, ST.out _ _ (by omega) (by omega)⟩
          | (simp [intOf]; omega)
      · obtain rfl : k = n := by omega
        have HE2 := Lib.hid (show xs = R by rw [← HE.out, List.drop_of_length_le (by have := HN.out; omega)]; simp [cutF])
        go_wp2
        go_ret
        exact RetW.of HE2.out HX.out HW.out
theorem newR_rw {w w' : World} {v : Value} {ys : List Rn} (k : Rw w w' v ys) : NewR w w' v ys := ⟨k.sl, fun b hb => ⟨(k.1.lt b hb).1, (k.1.lt b hb).2, owns_frozen k.1 hb⟩⟩
set_option maxRecDepth 20000 in
set_option maxHeartbeats 4000000 in
theorem near_d {g n j : Nat} {w0 w : World} {D : Ln.Ds} (h : DM g n w0 w D) (hj : j < n) (z : Int) (hz : Bw z) :
    Calls Try.prog 154 #[.pointer (some ⟨g, j, none⟩), .int .i64 z] w (RetS g n w0 w (putS (j : Int) (fun D => nea (domAt D (j : Int)) (L (j : Int) D) z (H (j : Int) D)) D)) := by
  obtain ⟨A, c, h1, h2, h3, h4⟩ := h.cell hj
  have LO := Lib.hid (fun W (k : Since w W) => lo_d (h.since k) hj)
  have HI := Lib.hid (fun W (k : Since w W) => hi_d (h.since k) hj)
  have WN := Lib.hid (show IntKind.i64.wrap (-z) = -z from wrap_id' (by unfold Bw at hz; omega) (by unfold Bw at hz; omega))
  have wn := WN.out
  have C1 := Lib.hid (fun W (k : Since w W) => show Calls Try.prog 188 #[.slice A (domAt D (j : Int)).length c, .int .i64 (L (j : Int) D), .int .i64 (-z)] W (fun e w' => ∃ A m c W1, e = .returned (.slice A m c) ∧ (cut (domAt D (j : Int)) (L (j : Int) D) (-z)).length = m ∧ Since w W1 ∧ Rw W1 w' (.slice A m c) (cut (domAt D (j : Int)) (L (j : Int) D) (-z)) ∧ Since W w') from by
    skip
    exact (cut_rw _ _ _ _ W (h2.since stR k) (right_len h3) (okF_bd h3 (Int.le_refl _))).mono fun e w' ⟨A, m, c, a1, a2, a3⟩ => ⟨A, m, c, W, a1, a2, k, a3, a3.2⟩)
  have C2 := Lib.hid (fun W (k : Since w W) => show Calls Try.prog 188 #[.slice A (domAt D (j : Int)).length c, .int .i64 z, .int .i64 (H (j : Int) D)] W (fun e w' => ∃ A m c, e = .returned (.slice A m c) ∧ (cut (domAt D (j : Int)) z (H (j : Int) D)).length = m ∧ Sl 2 QR w' (.slice A m c) (cut (domAt D (j : Int)) z (H (j : Int) D)) ∧ Since W w') from
    (cut_any _ _ _ _ W (h2.since stR k) (right_len h3) (okF_bd h3 (Int.le_refl _))).mono fun e w' ⟨A, m, c, a1, a2, a3, a4⟩ => ⟨A, m, c, a1, a2, a3, a4⟩)
  have PT := Lib.hid (fun W1 W u d (k1 : Since w W1) (k : Since W1 W) (hu : NewR W1 W u d) => (h.at_.since k1).put2 k hj hu (Nat.le_trans (Nat.le_of_lt (Nat.lt_of_le_of_lt h.lo_ h.hi_)) k1.size) (Nat.lt_of_lt_of_le h.hi_ k1.size))
  have FZ := Lib.hid (fun W (k : Since w W) => (h.at_.since k).no hj)
  have CC := Lib.hid (fun W (k : Since w W) => show W.cell? ⟨g, j, none⟩ = some (.slice A (domAt D (j : Int)).length c) from (k.cell _ (World.block_lt_of_cell? _ _ h1)).trans h1)
  have CA := Lib.hid (fun W u (k : Since w W) => show (W.setCell ⟨g, j, none⟩ u).cell? ⟨g, j, none⟩ = some u from by
    obtain ⟨-, cs, b1, b2, -, -⟩ := h.at_.since k
    have := (bxset b1 j u rfl).cell j
    rw [this]
    simp [b2, hj])
  have RS := Lib.hid (fun W d (hd : DAm g n w0 W (D.set j d)) (k : Og g w W) (hF : nea (domAt D (j : Int)) (L (j : Int) D) z (H (j : Int) D) = d) => put_rets hd k (fun D => nea (domAt D (j : Int)) (L (j : Int) D) z (H (j : Int) D)) hF)
  have LN := Lib.hid (cut_len (domAt D (j : Int)) (L (j : Int) D) (-z))
  have LN2 := Lib.hid (cut_len (domAt D (j : Int)) z (H (j : Int) D))
  have LD := Lib.hid (right_len h3)
  have HG := Lib.hid h.hi_
  have HN := Lib.hid (show nea (domAt D (j : Int)) (L (j : Int) D) z (H (j : Int) D) = cut (domAt D (j : Int)) (L (j : Int) D) (-z) ++ cut (domAt D (j : Int)) z (H (j : Int) D) from rfl)
  generalize cut (domAt D (j : Int)) (L (j : Int) D) (-z) = d1 at *
  generalize cut (domAt D (j : Int)) z (H (j : Int) D) = d2 at *
  clear h h1 h2 h3 h4 hz
  go_enter Try.func154, Try.ntmps154
  go_wp2
  have hr0 : Since w w.drew := Since.drew (Since.refl w)
  refine wp_region_noPanic ?_
  refine Reg.wp_region_G (S := fun _ => True) (fun j => [].contains j) (by kernel_rfl) trivial ?_
  refine' Reg.tk3 (i := 0) (v := _) (some 7) [1, 2, 3, 8, 9] [] rfl (Or.inl ⟨by rfl, Or.inl ?hy1⟩) ?rest1
  case hy1 => (intro w' kk ss; have y0 := CC.out _ (hr0.trans kk); go_simp; first | done | with_reducible rfl)
  try simp only [Act.put, List.setIfInBounds_toArray, List.set_cons_zero, List.set_cons_succ]
  refine' Reg.tk3 (i := 1) (v := _) (some 8) [2, 3, 8, 9] [] rfl (Or.inl ⟨by rfl, Or.inl ?hy2⟩) ?rest2
  case hy2 => (intro w' kk ss; have y0 := CC.out _ (hr0.trans kk); go_simp; first | done | with_reducible rfl)
  try simp only [Act.put, List.setIfInBounds_toArray, List.set_cons_zero, List.set_cons_succ]
  refine' Reg.tk3 (i := 2) (v := _) (some 9) [3, 8, 9] [] rfl (Or.inl ⟨by rfl, Or.inl ?hy3⟩) ?rest3
  case hy3 => (intro w' kk ss; have y0 := CC.out _ (hr0.trans kk); go_simp; first | done | with_reducible rfl)
  try simp only [Act.put, List.setIfInBounds_toArray, List.set_cons_zero, List.set_cons_succ]
  refine' Reg.tk3 (i := 3) (v := _) (some 10) [8, 9] [] rfl (Or.inl ⟨by rfl, Or.inl ?hy4⟩) ?rest4
  case hy4 => (intro w' kk ss; have y0 := CC.out _ (hr0.trans kk); go_simp; first | done | with_reducible rfl)
  try simp only [Act.put, List.setIfInBounds_toArray, List.set_cons_zero, List.set_cons_succ]
  refine' Reg.tk3 (i := 4) (v := _) (some 11) [5, 8, 9] [] rfl (Or.inl ⟨by rfl, Or.inl ?hy5⟩) ?rest5
  case hy5 => (intro w' kk ss; have y0 := CC.out _ (hr0.trans kk); go_simp; first | done | with_reducible rfl)
  try simp only [Act.put, List.setIfInBounds_toArray, List.set_cons_zero, List.set_cons_succ]
  refine Reg.tk3 (i := 5) (v := .int .i64 (L (j : Int) D)) (some 12) [8, 9] [] rfl (Or.inl ⟨by rfl, Or.inr ⟨150, #[.pointer (some ⟨g, j, none⟩)], fun w' kk ss => ⟨?_, ?_⟩⟩⟩) ?_
  · (try dsimp only at ss); go_simp
  · exact (LO.out _ (hr0.trans kk)).mono fun _ _ h => ⟨h.1, h.2, trivial⟩
  try simp only [Act.put, List.setIfInBounds_toArray, List.set_cons_zero, List.set_cons_succ]
  refine' Reg.tk3 (i := 6) (v := _) (some 13) [7, 8, 9] [] rfl (Or.inl ⟨by rfl, Or.inl ?hy6⟩) ?rest6
  case hy6 => (intro w' kk ss; have y0 := CC.out _ (hr0.trans kk); go_simp; first | done | with_reducible rfl)
  try simp only [Act.put, List.setIfInBounds_toArray, List.set_cons_zero, List.set_cons_succ]
  refine' Reg.tk3 (i := 7) (v := _) (some 14) [8, 9] [] rfl (Or.inl ⟨by rfl, Or.inl ?hy7⟩) ?rest7
  case hy7 => (intro w' kk ss; have y0 := CC.out _ (hr0.trans kk); go_simp; first | done | with_reducible rfl)
  try simp only [Act.put, List.setIfInBounds_toArray, List.set_cons_zero, List.set_cons_succ]
  refine Reg.wpG_ready (rs := [8]) (by kernel_rfl) (by simp) (fun wa1 ka1 sa1 => ?_)
  have hr0 := hr0.trans ka1
  have hgb1 := hr0.size
  refine Reg.AllG.first (o := { dst := some 15, op := Op.call { callee := Callee.value (Operand.func 188), args := #[Operand.tmp 10, Operand.tmp 12, Operand.tmp 14], argTypes := #[33, 2, 2] }, type := 33, pos := "domain.go:80", after := #[{ on := 3, ground := Ground.data }, { on := 5, ground := Ground.data }, { on := 7, ground := Ground.data }, { on := 5, ground := Ground.chain }], guard := none }) rfl (by rfl) (fun K hK => ?_) Reg.AllG.nil
  go_simp
  (with_reducible refine (C1.out wa1 hr0).mono ?_)
  rintro e ya1 ⟨A1, m1, c1, W1, rfl, hm1, kw, q1, hx⟩
  refine hK.out _ _ trivial hx ?_
  clear hK K
  have hr0 := hr0.trans hx
  try simp only [Act.put, List.setIfInBounds_toArray, List.set_cons_zero, List.set_cons_succ]
  refine' Reg.tk3 (i := 9) (v := _) (some 5) [] [] rfl (Or.inl ⟨by rfl, Or.inl ?hy8⟩) ?rest8
  case hy8 => (intro w' kk ss; have y0 := CC.out _ (hr0.trans kk); go_simp; first | done | with_reducible rfl)
  try simp only [Act.put, List.setIfInBounds_toArray, List.set_cons_zero, List.set_cons_succ]
  refine Reg.wpG_done (by kernel_rfl) (fun wq1 ke se => ?_) _
  refine NoPanic.normal ?_
  have hr0 := hr0.trans ke
  have q1 := q1.since ke
  clear ke
  have K1 := Lib.hid hr0
  clear hr0
  go_wp2
  have hr0 : Since wq1 wq1.drew := Since.drew (Since.refl wq1)
  refine wp_region_noPanic ?_
  refine Reg.wp_region_G (S := fun _ => True) (fun j => [].contains j) (by kernel_rfl) trivial ?_
  refine' Reg.tk3 (i := 0) (v := _) (some 16) [1, 2, 3, 7, 8] [] rfl (Or.inl ⟨by rfl, Or.inl ?hy9⟩) ?rest9
  case hy9 => (intro w' kk ss; have y0 := CC.out _ (K1.out.trans (hr0.trans kk)); go_simp; first | done | with_reducible rfl)
  try simp only [Act.put, List.setIfInBounds_toArray, List.set_cons_zero, List.set_cons_succ]
  refine' Reg.tk3 (i := 1) (v := _) (some 17) [2, 3, 7, 8] [] rfl (Or.inl ⟨by rfl, Or.inl ?hy10⟩) ?rest10
  case hy10 => (intro w' kk ss; have y0 := CC.out _ (K1.out.trans (hr0.trans kk)); go_simp; first | done | with_reducible rfl)
  try simp only [Act.put, List.setIfInBounds_toArray, List.set_cons_zero, List.set_cons_succ]
  refine' Reg.tk3 (i := 2) (v := _) (some 18) [3, 7, 8] [] rfl (Or.inl ⟨by rfl, Or.inl ?hy11⟩) ?rest11
  case hy11 => (intro w' kk ss; have y0 := CC.out _ (K1.out.trans (hr0.trans kk)); go_simp; first | done | with_reducible rfl)
  try simp only [Act.put, List.setIfInBounds_toArray, List.set_cons_zero, List.set_cons_succ]
  refine' Reg.tk3 (i := 3) (v := _) (some 19) [7, 8] [] rfl (Or.inl ⟨by rfl, Or.inl ?hy12⟩) ?rest12
  case hy12 => (intro w' kk ss; have y0 := CC.out _ (K1.out.trans (hr0.trans kk)); go_simp; first | done | with_reducible rfl)
  try simp only [Act.put, List.setIfInBounds_toArray, List.set_cons_zero, List.set_cons_succ]
  refine' Reg.tk3 (i := 4) (v := _) (some 20) [7, 8] [] rfl (Or.inl ⟨by rfl, Or.inl ?hy13⟩) ?rest13
  case hy13 => (intro w' kk ss; have y0 := CC.out _ (K1.out.trans (hr0.trans kk)); go_simp; first | done | with_reducible rfl)
  try simp only [Act.put, List.setIfInBounds_toArray, List.set_cons_zero, List.set_cons_succ]
  refine' Reg.tk3 (i := 5) (v := _) (some 21) [6, 7, 8] [] rfl (Or.inl ⟨by rfl, Or.inl ?hy14⟩) ?rest14
  case hy14 => (intro w' kk ss; have y0 := CC.out _ (K1.out.trans (hr0.trans kk)); go_simp; first | done | with_reducible rfl)
  try simp only [Act.put, List.setIfInBounds_toArray, List.set_cons_zero, List.set_cons_succ]
  refine Reg.tk3 (i := 6) (v := .int .i64 (H (j : Int) D)) (some 22) [7, 8] [] rfl (Or.inl ⟨by rfl, Or.inr ⟨151, #[.pointer (some ⟨g, j, none⟩)], fun w' kk ss => ⟨?_, ?_⟩⟩⟩) ?_
  · (try dsimp only at ss); go_simp
  · exact (HI.out _ (K1.out.trans (hr0.trans kk))).mono fun _ _ h => ⟨h.1, h.2, trivial⟩
  try simp only [Act.put, List.setIfInBounds_toArray, List.set_cons_zero, List.set_cons_succ]
  refine Reg.wpG_ready (rs := [7]) (by kernel_rfl) (by simp) (fun wa1 ka1 sa1 => ?_)
  have hr0 := hr0.trans ka1
  have hgb1 := hr0.size
  refine Reg.AllG.first (o := { dst := some 23, op := Op.call { callee := Callee.value (Operand.func 188), args := #[Operand.tmp 19, Operand.tmp 20, Operand.tmp 22], argTypes := #[33, 2, 2] }, type := 33, pos := "domain.go:81", after := #[{ on := 3, ground := Ground.data }, { on := 4, ground := Ground.data }, { on := 6, ground := Ground.data }, { on := 6, ground := Ground.chain }], guard := none }) rfl (by rfl) (fun K hK => ?_) Reg.AllG.nil
  go_simp
  (with_reducible refine (C2.out wa1 (K1.out.trans hr0)).mono ?_)
  rintro e ya1 ⟨A2, m2, c2, rfl, hm2, q2, hx⟩
  refine hK.out _ _ trivial hx ?_
  clear hK K
  have hr0 := hr0.trans hx
  try simp only [Act.put, List.setIfInBounds_toArray, List.set_cons_zero, List.set_cons_succ]
  refine' Reg.tk3 (i := 8) (v := _) (some 6) [] [] rfl (Or.inl ⟨by rfl, Or.inl ?hy15⟩) ?rest15
  case hy15 => (intro w' kk ss; have y0 := CC.out _ (K1.out.trans (hr0.trans kk)); go_simp; first | done | with_reducible rfl)
  try simp only [Act.put, List.setIfInBounds_toArray, List.set_cons_zero, List.set_cons_succ]
  refine Reg.wpG_done (by kernel_rfl) (fun wq2 ke se => ?_) _
  refine NoPanic.normal ?_
  have hr0 := hr0.trans ke
  have q2 := q2.since stR ke
  clear ke
  have K2 := Lib.hid hr0
  clear hr0
  have Q1 := Lib.hid (q1.since K2.out)
  have Q2 := Lib.hid q2
  have H1 := Lib.hid hm1
  have H2 := Lib.hid hm2
  clear q1 q2 hm1 hm2
  go_wp2_with (at_builtin; refine wpList_appIn Q1.out (by have := LN.out; have := LD.out; omega) Q2.out (by have := LN2.out; have := LD.out; have := H2.out; omega) (by rfl) _ _ rfl rfl rfl ?_; intro A3 c3 w3 q3 k3; have KW := Lib.hid (kw.trans q3.2); have PU := Lib.hid (PT.out W1 w3 _ _ kw q3.2 (newR_rw q3)); have z0 := CC.out _ KW.out; have zf := FZ.out _ KW.out; have zn := CA.out _ (.slice A3 (d1.length + m2) c3) KW.out; clear q3 k3)
  go_ret
  have hh := RS.out _ _ PU.out ((Turn.of KW.out _).set (fun _ => by simp [but]) _) HN.out
  rw [pos_len, List.length_append, H2.out] at hh
  have e : decide (0 < d1.length + m2) = decide ((0 : Int) < (d1.length : Int) + (m2 : Int)) := by simp only [decide_eq_decide]; omega
  first | exact hh | (rw [e] at hh; exact hh)
set_option maxRecDepth 20000 in
set_option maxHeartbeats 4000000 in
theorem same_d {g n x y : Nat} {w0 w : World} {D : Ln.Ds} (h : DM g n w0 w D) (hx : x < n) (hy : y < n) :
    Calls Try.prog 102 #[.pointer (some ⟨g, x, none⟩), .pointer (some ⟨g, y, none⟩)] w (RetS g n w0 w (samS (x : Int) (y : Int) D)) := by
  obtain ⟨A, c, h1, h2, h3, h4⟩ := h.cell hx
  obtain ⟨B, d, e1, e2, e3, e4⟩ := h.cell hy
  have ME := Lib.hid (fun W (k : Since w W) => show Calls Try.prog 63 #[.slice A (domAt D (x : Int)).length c, .slice B (domAt D (y : Int)).length d] W (fun e w' => ∃ A m c, e = .returned (.slice A m c) ∧ (meet (domAt D (x : Int)) (domAt D (y : Int))).length = m ∧ NewR w w' (.slice A m c) (meet (domAt D (x : Int)) (domAt D (y : Int))) ∧ Since W w') from
    (meet_new _ _ _ _ W (h2.since stR k) (e2.since stR k) (right_len h3) (right_len e3) (okF_bd h3 (Int.le_refl _)) (okF_bd e3 (Int.le_refl _))).mono fun _ _ hh => by
      obtain ⟨A, m, c, a1, a2, a3, a4⟩ := newR_of hh
      exact ⟨A, m, c, a1, a2, ⟨a3.1, fun b hb => ⟨Nat.le_trans k.size (a3.2 b hb).1, (a3.2 b hb).2⟩⟩, a4⟩)
  have CX := Lib.hid (fun W (k : Since w W) => show W.cell? ⟨g, x, none⟩ = some (.slice A (domAt D (x : Int)).length c) from (k.cell _ (World.block_lt_of_cell? _ _ h1)).trans h1)
  have CY := Lib.hid (fun W (k : Since w W) => show W.cell? ⟨g, y, none⟩ = some (.slice B (domAt D (y : Int)).length d) from (k.cell _ (World.block_lt_of_cell? _ _ e1)).trans e1)
  have FX := Lib.hid (fun W (k : Since w W) => (h.at_.since k).no hx)
  have PX := Lib.hid (fun W u d (k : Since w W) (hu : NewR w W u d) => h.at_.put2 k hx hu (Nat.le_of_lt (Nat.lt_of_le_of_lt h.lo_ h.hi_)) h.hi_)
  have ML := Lib.hid (right_len (meet_right (domAt D (x : Int)) (domAt D (y : Int))))
  have HS : samS (x : Int) (y : Int) D = if meet (domAt D (x : Int)) (domAt D (y : Int)) = [] then none else some ((D.set x (meet (domAt D (x : Int)) (domAt D (y : Int)))).set y (meet (domAt D (x : Int)) (domAt D (y : Int)))) := rfl
  rw [HS]
  have HL := Lib.hid h.at_.len
  have HG := Lib.hid (And.intro h.lo_ h.hi_)
  generalize meet (domAt D (x : Int)) (domAt D (y : Int)) = m at *
  have HX := Lib.hid hx
  have HY := Lib.hid hy
  obtain ⟨o, ho⟩ : ∃ o, o = (if m = [] then none else some ((D.set x m).set y m)) := ⟨_, rfl⟩
  rw [← ho]
  have HO := Lib.hid ho
  clear ho
  clear HS h h1 h2 h3 h4 e1 e2 e3 e4 hx hy
  go_enter Try.func102, Try.ntmps102
  go_wp2
  have hr0 : Since w w.drew := Since.drew (Since.refl w)
  refine wp_region_noPanic ?_
  refine Reg.wp_region_G (S := fun _ => True) (fun j => [12].contains j) (by kernel_rfl) trivial ?_
  refine' Reg.tk3 (i := 0) (v := _) (some 5) [10, 11, 12] [12] rfl (Or.inl ⟨by rfl, Or.inl ?hy16⟩) ?rest16
  case hy16 => (intro w' kk ss; have y0 := CX.out _ (hr0.trans kk); have y1 := CY.out _ (hr0.trans kk); go_simp; first | done | with_reducible rfl)
  try simp only [Act.put, List.setIfInBounds_toArray, List.set_cons_zero, List.set_cons_succ]
  refine' Reg.tk3 (i := 1) (v := _) (some 6) [2, 3, 4, 9, 10, 11, 12] [12] rfl (Or.inl ⟨by rfl, Or.inl ?hy17⟩) ?rest17
  case hy17 => (intro w' kk ss; have y0 := CX.out _ (hr0.trans kk); have y1 := CY.out _ (hr0.trans kk); go_simp; first | done | with_reducible rfl)
  try simp only [Act.put, List.setIfInBounds_toArray, List.set_cons_zero, List.set_cons_succ]
  refine' Reg.tk3 (i := 2) (v := _) (some 7) [3, 4, 9, 10, 11, 12] [12] rfl (Or.inl ⟨by rfl, Or.inl ?hy18⟩) ?rest18
  case hy18 => (intro w' kk ss; have y0 := CX.out _ (hr0.trans kk); have y1 := CY.out _ (hr0.trans kk); go_simp; first | done | with_reducible rfl)
  try simp only [Act.put, List.setIfInBounds_toArray, List.set_cons_zero, List.set_cons_succ]
  refine' Reg.tk3 (i := 3) (v := _) (some 8) [4, 9, 10, 11, 12] [12] rfl (Or.inl ⟨by rfl, Or.inl ?hy19⟩) ?rest19
  case hy19 => (intro w' kk ss; have y0 := CX.out _ (hr0.trans kk); have y1 := CY.out _ (hr0.trans kk); go_simp; first | done | with_reducible rfl)
  try simp only [Act.put, List.setIfInBounds_toArray, List.set_cons_zero, List.set_cons_succ]
  refine' Reg.tk3 (i := 4) (v := _) (some 9) [9, 10, 11, 12] [12] rfl (Or.inl ⟨by rfl, Or.inl ?hy20⟩) ?rest20
  case hy20 => (intro w' kk ss; have y0 := CX.out _ (hr0.trans kk); have y1 := CY.out _ (hr0.trans kk); go_simp; first | done | with_reducible rfl)
  try simp only [Act.put, List.setIfInBounds_toArray, List.set_cons_zero, List.set_cons_succ]
  refine' Reg.tk3 (i := 5) (v := _) (some 10) [6, 7, 8, 9, 10, 11, 12] [12] rfl (Or.inl ⟨by rfl, Or.inl ?hy21⟩) ?rest21
  case hy21 => (intro w' kk ss; have y0 := CX.out _ (hr0.trans kk); have y1 := CY.out _ (hr0.trans kk); go_simp; first | done | with_reducible rfl)
  try simp only [Act.put, List.setIfInBounds_toArray, List.set_cons_zero, List.set_cons_succ]
  refine' Reg.tk3 (i := 6) (v := _) (some 11) [7, 8, 9, 10, 11, 12] [12] rfl (Or.inl ⟨by rfl, Or.inl ?hy22⟩) ?rest22
  case hy22 => (intro w' kk ss; have y0 := CX.out _ (hr0.trans kk); have y1 := CY.out _ (hr0.trans kk); go_simp; first | done | with_reducible rfl)
  try simp only [Act.put, List.setIfInBounds_toArray, List.set_cons_zero, List.set_cons_succ]
  refine' Reg.tk3 (i := 7) (v := _) (some 12) [8, 9, 10, 11, 12] [12] rfl (Or.inl ⟨by rfl, Or.inl ?hy23⟩) ?rest23
  case hy23 => (intro w' kk ss; have y0 := CX.out _ (hr0.trans kk); have y1 := CY.out _ (hr0.trans kk); go_simp; first | done | with_reducible rfl)
  try simp only [Act.put, List.setIfInBounds_toArray, List.set_cons_zero, List.set_cons_succ]
  refine' Reg.tk3 (i := 8) (v := _) (some 13) [9, 10, 11, 12] [12] rfl (Or.inl ⟨by rfl, Or.inl ?hy24⟩) ?rest24
  case hy24 => (intro w' kk ss; have y0 := CX.out _ (hr0.trans kk); have y1 := CY.out _ (hr0.trans kk); go_simp; first | done | with_reducible rfl)
  try simp only [Act.put, List.setIfInBounds_toArray, List.set_cons_zero, List.set_cons_succ]
  refine Reg.wpG_ready (rs := [9]) (by kernel_rfl) (by simp) (fun wa1 ka1 sa1 => ?_)
  have hr0 := hr0.trans ka1
  have hgb1 := hr0.size
  refine Reg.AllG.first (o := { dst := some 14, op := Op.call { callee := Callee.value (Operand.func 63), args := #[Operand.tmp 9, Operand.tmp 13], argTypes := #[33, 33] }, type := 33, pos := "kinds.go:69", after := #[{ on := 4, ground := Ground.data }, { on := 8, ground := Ground.data }], guard := none }) rfl (by rfl) (fun K hK => ?_) Reg.AllG.nil
  go_simp
  (with_reducible refine (ME.out wa1 hr0).mono ?_)
  rintro e ya1 ⟨A2, m2, c2, rfl, hm2, q1, hx⟩
  refine hK.out _ _ trivial hx ?_
  clear hK K
  have hr0 := hr0.trans hx
  try simp only [Act.put, List.setIfInBounds_toArray, List.set_cons_zero, List.set_cons_succ]
  refine' Reg.tk3 (i := 10) (v := _) (some 15) [11, 12] [12] rfl (Or.inl ⟨by rfl, Or.inl ?hy25⟩) ?rest25
  case hy25 => (intro w' kk ss; have y0 := CX.out _ (hr0.trans kk); have y1 := CY.out _ (hr0.trans kk); go_simp; first | done | with_reducible rfl)
  try simp only [Act.put, List.setIfInBounds_toArray, List.set_cons_zero, List.set_cons_succ]
  refine' Reg.tk3 (i := 11) (v := _) (some 16) [12] [12] rfl (Or.inl ⟨by rfl, Or.inl ?hy26⟩) ?rest26
  case hy26 => (intro w' kk ss; have y0 := CX.out _ (hr0.trans kk); have y1 := CY.out _ (hr0.trans kk); go_simp; first | done | with_reducible rfl)
  try simp only [Act.put, List.setIfInBounds_toArray, List.set_cons_zero, List.set_cons_succ]
  refine Reg.wpG_ready (rs := [12]) (by kernel_rfl) (by simp) (fun wq kq sq => ?_)
  have hr0 := hr0.trans kq
  refine Reg.AllG.last (o := { dst := none, op := Op.store 33 (Operand.tmp 16) (Operand.tmp 14), type := 0, pos := "kinds.go:69", after := #[{ on := 11, ground := Ground.data }, { on := 9, ground := Ground.data }, { on := 9, ground := Ground.chain }, { on := 0, ground := Ground.phase }, { on := 1, ground := Ground.phase }, { on := 2, ground := Ground.phase }, { on := 3, ground := Ground.phase }, { on := 4, ground := Ground.phase }, { on := 5, ground := Ground.phase }, { on := 6, ground := Ground.phase }, { on := 7, ground := Ground.phase }, { on := 8, ground := Ground.phase }, { on := 9, ground := Ground.phase }], guard := none }) rfl (by rfl) (fun K hK => ?_) Reg.AllG.nil
  have q1 := q1.since kq
  have PU := PX.out _ _ _ hr0 q1
  have z0 := CX.out _ hr0
  have zf := FX.out _ hr0
  go_simp
  refine hK.out _ _ trivial (fun hHeld => ?_)
  clear hK K
  try simp only [Act.put, List.setIfInBounds_toArray, List.set_cons_zero, List.set_cons_succ]
  refine wpAnyH_done (by kernel_rfl) ?_ _
  refine NoPanic.normal ?_
  have OW := Lib.hid (show Og g w (wq.setCell ⟨g, x, none⟩ (.slice A2 m2 c2)) from (Turn.of hr0 _).set (fun _ => by simp [but]) _)
  have P1 := Lib.hid PU
  have hgs : g < (wq.setCell ⟨g, x, none⟩ (.slice A2 m2 c2)).heap.size := Nat.lt_of_lt_of_le HG.out.2 OW.out.size
  obtain ⟨A4, c4, b1, b2⟩ := PU.get (i := x) (by rw [List.length_set, HL.out]; exact HX.out)
  have hx5 : (D.set x m)[x]'(by rw [List.length_set, HL.out]; exact HX.out) = m := by simp
  rw [hx5] at b1 b2
  have CL := Lib.hid (rclone_any _ m _ b2 ML.out)
  have HM2 := Lib.hid hm2
  obtain ⟨ml, hml⟩ : ∃ ml, ml = m.length := ⟨_, rfl⟩
  rw [← hml] at b1 CL
  have HML := Lib.hid hml
  clear hm2 hml
  have PY := Lib.hid (fun W u d (k : Since (wq.setCell ⟨g, x, none⟩ (.slice A2 m2 c2)) W) (hu : NewR (wq.setCell ⟨g, x, none⟩ (.slice A2 m2 c2)) W u d) => P1.out.put2 k HY.out hu (Nat.le_trans (Nat.le_of_lt (Nat.lt_of_le_of_lt HG.out.1 HG.out.2)) OW.out.size) hgs)
  have FY := Lib.hid (fun W (k : Since (wq.setCell ⟨g, x, none⟩ (.slice A2 m2 c2)) W) => (P1.out.since k).no HY.out)
  have GY := Lib.hid (fun W (k : Since (wq.setCell ⟨g, x, none⟩ (.slice A2 m2 c2)) W) => show ∃ u, W.cell? ⟨g, y, none⟩ = some u from (let ⟨A, c, h1, _⟩ := (P1.out.since k).get (i := y) (by rw [List.length_set, HL.out]; exact HY.out); ⟨_, h1⟩))
  generalize wq.setCell ⟨g, x, none⟩ (.slice A2 m2 c2) = wz at *
  clear PU hr0 q1 b2 hx5
  go_wp2_with (go_at_call 69; go_loud ((with_reducible refine (CL.out).mono ?_); intro e w5 hq; obtain ⟨A5, m5, c5, rfl, hm5, q5, k5⟩ := newR_of hq; have PZ := Lib.hid (PY.out _ _ _ k5 q5); have K5 := Lib.hid k5; have zf5 := FY.out _ k5; obtain ⟨u5, zu5⟩ := GY.out _ k5; have H5 := Lib.hid hm5; obtain ⟨A6, c6, b6, -⟩ := PZ.out.get (i := x) (by rw [List.length_set, List.length_set, HL.out]; exact HX.out); rw [show ((D.set x m).set y m)[x]'(by rw [List.length_set, List.length_set, HL.out]; exact HX.out) = m by (by_cases c : y = x <;> simp [List.getElem_set, c]), ← HML.out] at b6; clear hq k5 q5 hm5))
  go_ret
  have KO := (OW.out.since K5.out).put y (.slice A5 m5 c5)
  have hh : RetS g n w0 w (if m = [] then none else some ((D.set x m).set y m)) (.returned (.bool (decide (m ≠ [])))) (w5.setCell ⟨g, y, none⟩ (.slice A5 m5 c5)) := by
    by_cases c : m = []
    · rw [if_pos c, show decide (m ≠ []) = false by simp [c]]; exact .no KO
    · rw [if_neg c, show decide (m ≠ []) = true by simp [c]]; exact .yes PZ.out KO
  rw [pos_len, ← HML.out, ← HO.out] at hh
  have e : decide (0 < ml) = decide ((0 : Int) < (ml : Int)) := by simp only [decide_eq_decide]; omega
  first | exact hh | (rw [e] at hh; exact hh) | simpa using hh
end Go.Proofs.Ytalcgjkegohhgaa.At
