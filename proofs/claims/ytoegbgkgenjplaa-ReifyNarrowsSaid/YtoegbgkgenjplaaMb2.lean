/- Layer 12 (linear): the document's own Lo, Hi, Fixed, Empty, With, Opposite. -/
import Derived.Test.YtoegbgkgenjplaaLa
import Derived.Test.YtoegbgkgenjplaaQas
import Derived.Test.YtoegbgkgenjplaaKd
namespace Go.Proofs.Ytoegbgkgenjplaa.Ln
open Go.RowKit
set_option linter.unusedVariables false
set_option linter.unusedSimpArgs false
open Go.Proofs.Ytoegbgkgenjplaa.Dig Go.Proofs.Ytoegbgkgenjplaa.Lx Go.Proofs.Ytoegbgkgenjplaa.Tk Go.Proofs.Ytoegbgkgenjplaa.Ti Go.Proofs.Ytoegbgkgenjplaa.Zs Go.Proofs.Ytoegbgkgenjplaa.Tr Go.Proofs.Ytoegbgkgenjplaa.Sn
theorem rlo_any {A : Option Addr} {m c : Nat} {d : List Rn} {w : World} (h : Sl 2 QR w (.slice A m c) d) (hd : d ≠ []) (W : World) (k : Since w W) :
    Calls Try.prog 75 #[.slice A m c] W (fun e w' => e = .returned (.int .i64 (lo d)) ∧ Since W w' ∧ True) := by
  have hp : 0 < d.length := List.length_pos_iff.2 hd
  obtain ⟨g, o, rfl, e0, -⟩ := elR (h.since stR k) (i := 0) hp
  have hm : 0 < m := by rw [h.at_.1]; exact hp
  have hl : d[0] = d.getD 0 (0, 0) := by simp [List.getD, hp]
  rw [hl] at e0
  simp only [Nat.zero_mul, Nat.add_zero] at e0
  have e1 : W.cell? ⟨g, o, none⟩ = some (.int .i64 (lo d)) := e0
  clear e0 h hd hl hp k
  go_enter Try.func75, Try.ntmps75
  go_wp2
  go_ret
  exact ⟨rfl, Since.refl _, trivial⟩
theorem rhi_any {A : Option Addr} {m c : Nat} {d : List Rn} {w : World} (h : Sl 2 QR w (.slice A m c) d) (hd : d ≠ []) (hl9 : d.length ≤ 1100000) (W : World) (k : Since w W) :
    Calls Try.prog 76 #[.slice A m c] W (fun e w' => e = .returned (.int .i64 (hi d)) ∧ Since W w' ∧ True) := by
  have hp : 0 < d.length := List.length_pos_iff.2 hd
  have hm := h.at_.1
  obtain ⟨n, hn⟩ : ∃ n, m = n + 1 := ⟨m - 1, by omega⟩
  subst hn
  obtain ⟨g, o, rfl, -, e1⟩ := elR (h.since stR k) (i := n) (by omega)
  have hl : d[n]'(by omega) = d.getD (d.length - 1) (0, 0) := by
    have e : d.length - 1 = n := by omega
    rw [e]; simp [List.getD, show n < d.length by omega]
  rw [hl] at e1
  have e2 : W.cell? ⟨g, o + n * 2 + 1, none⟩ = some (.int .i64 (hi d)) := e1
  have hn9 : n ≤ 1100000 := by omega
  have hwm : IntKind.i64.wrap (n : Int) = (n : Int) := by simp [IntKind.wrap, IntKind.bits, IntKind.signed]; omega
  have hmm : (n : Int) < (n : Int) + 1 := by omega
  clear e1 h hd hl hp k hl9 hm
  go_enter Try.func76, Try.ntmps76
  go_wp2
  go_ret
  exact ⟨rfl, Since.refl _, trivial⟩
theorem rfixed_any {A : Option Addr} {m c : Nat} {d : List Rn} {w : World} (h : Sl 2 QR w (.slice A m c) d) (hd : d ≠ []) (hl9 : d.length ≤ 1100000) (W : World) (k : Since w W) :
    Calls Try.prog 37 #[.slice A m c] W (fun e w' => e = .returned (.bool (lo d == hi d)) ∧ Since W w' ∧ True) := by
  have LO := Lib.hid (fun W k => rlo_any h hd W k)
  have HI := Lib.hid (fun W k => rhi_any h hd hl9 W k)
  have K := Lib.hid k
  clear h hd hl9 k
  generalize lo d = a at *
  generalize hi d = b at *
  go_enter Try.func37, Try.ntmps37
  go_wp2_with (first | (go_at_call 75; (with_reducible refine (LO.out _ K.out).mono ?_); rintro e w1 ⟨rfl, k1, -⟩; have K1 := Lib.hid k1; clear k1) | (go_at_call 76; (with_reducible refine (HI.out _ (K.out.trans K1.out)).mono ?_); rintro e w2 ⟨rfl, k2, -⟩; have K2 := Lib.hid k2; clear k2))
  go_ret
  exact ⟨rfl, K1.out.trans K2.out, trivial⟩
set_option maxRecDepth 20000 in
set_option maxHeartbeats 2000000 in
theorem rempty_any (v : Value) (D : Ds) (w : World) (h : Sl 1 QD w v D) (hl : D.length ≤ 100000) :
    Calls Try.prog 139 #[v] w (fun e w' => e = .returned (.bool (D.any List.isEmpty)) ∧ Since w w' ∧ True) := by
  obtain ⟨A, c, rfl⟩ := h.form
  obtain ⟨n, hn⟩ : ∃ n, n = D.length := ⟨_, rfl⟩
  obtain ⟨R, hR⟩ : ∃ R, R = D.any List.isEmpty := ⟨_, rfl⟩
  rw [← hR]
  rw [← hn] at h hl ⊢
  have H := Lib.hid h
  have HN := Lib.hid hn
  have HR := Lib.hid hR
  clear h hn hR
  go_enter Try.func139, Try.ntmps139
  go_wp2
  go_loopw [3] (fun i wr => ∃ k : Nat, i = .int .i64 (k : Int) ∧ k ≤ n ∧ Hid ((D.drop k).any List.isEmpty = R) ∧ Hid (Since w wr)) (fun i _ => n - (intOf i).toNat)
  case atStart => exact ⟨0, rfl, Nat.zero_le _, HR.out.symm, Since.refl _⟩
  case round =>
    obtain ⟨k, rfl, hk, HE, HW⟩ := hrel
    by_cases hkn : k < n
    · have hkl : k < D.length := by have := HN.out; omega
      obtain ⟨g, o, B, cB, rfl, hS, e0⟩ := elD (H.out.since stD HW.out) hkl
      have hst := HE.out
      rw [show D.drop k = D[k] :: D.drop (k + 1) from List.drop_eq_getElem_cons hkl, List.any_cons] at hst
      have ST := Lib.hid hst
      generalize hy : D[k] = y at *
      obtain ⟨p, hp⟩ : ∃ p, p = y.length := ⟨_, rfl⟩
      rw [← hp] at e0
      clear hst hS hy hkl
      rcases Nat.eq_zero_or_pos p with rfl | hz
      · have E := Lib.hid (show R = true by rw [← ST.out, show y.isEmpty = true by rw [List.eq_nil_of_length_eq_zero hp.symm]; rfl]; rfl)
        clear ST hp
        go_wp2
        go_ret
        exact ⟨by rw [E.out]; rfl, HW.out, trivial⟩
      · have E := Lib.hid (show (D.drop (k + 1)).any List.isEmpty = R by rw [← ST.out, show y.isEmpty = false by cases y with | nil => simp at hp; omega | cons _ _ => rfl]; simp)
        clear ST hp
        go_wp2
        go_roundw
        case rel => exact ⟨k + 1, by go_num, by omega, E.out, HW.out⟩
        case measure => simp [intOf]; omega
    · obtain rfl : k = n := by omega
      have E := Lib.hid (show false = R by rw [← HE.out, List.drop_of_length_le (by have := HN.out; omega)]; rfl)
      go_wp2
      go_ret
      exact ⟨by rw [← E.out]; rfl, HW.out, trivial⟩
theorem kD2 : Kind1 Try.prog 30 50 := knd1 Try.underlying30 (show (Try.prog.info? 50).map (fun i => (i.zero, i.size, i.bytes)) = some (some (.slice none 0 0), 1, 24) by kernel_rfl) (by decide) rfl
/-- the call ends in domains -/
def RetD (E : Ds) (w : World) (e : Ending) (w' : World) : Prop := ∃ A n c, e = .returned (.slice A n c) ∧ E.length = n ∧ Sl 1 QD w' (.slice A n c) E ∧ Since w w'
theorem rq_sl {w w' : World} {v : Value} {E : Ds} (h : Rq 50 (QD w) w w' v E) : Sl 1 QD w' v E := by
  obtain ⟨A, c, h1, h2, h3⟩ := h.sl
  exact ⟨A, c, h1, h2, fun hl => by
    obtain ⟨b, o, h4, h5⟩ := h3 hl
    exact ⟨b, o, h4, fun i x hx => by
      obtain ⟨u, h6, h7, h8⟩ := h5 i x hx
      exact ⟨u, stD _ _ _ _ h6 h.s, h7, h8⟩⟩⟩
set_option maxRecDepth 20000 in
set_option maxHeartbeats 2000000 in
theorem rwith_any (v vl : Value) (D : Ds) (x : Nat) (l : List Rn) (w : World) (h : Sl 1 QD w v D) (hv : Sl 2 QR w vl l) (hl : D.length ≤ 100000) :
    Calls Try.prog 138 #[v, .int .i64 (x : Int), vl] w (RetD (D.set x l) w) := by
  obtain ⟨A, c, rfl⟩ := h.form
  obtain ⟨VB, vm, vc, rfl⟩ : ∃ B m c, vl = .slice B m c := by obtain ⟨B, c, rfl⟩ := hv.form; exact ⟨_, _, _, rfl⟩
  obtain ⟨n, hn⟩ : ∃ n, n = D.length := ⟨_, rfl⟩
  rw [← hn] at h hl ⊢
  have H := Lib.hid h
  have HN := Lib.hid hn
  have HV := Lib.hid hv
  clear h hn hv
  go_enter Try.func138, Try.ntmps138
  go_wp2
  go_loopw [7, 8] (fun s i wr => ∃ (k : Nat) (B : Option Addr) (cB : Nat) (xs : Ds), i = .int .i64 (k : Int) ∧ s = .slice B k cB ∧ k ≤ n ∧ Hid (xs = (D.set x l).take k) ∧ Hid (xs.length = k) ∧ Hid (Rq 50 (QD w) w wr (.slice B k cB) xs)) (fun _ i _ => n - (intOf i).toNat)
  case atStart => exact ⟨0, none, 0, [], rfl, rfl, Nat.zero_le _, rfl, rfl, Rq.nil _ _ (Since.refl _)⟩
  case round =>
    obtain ⟨k, B, cB, xs, rfl, rfl, hk, HX, HL, HR⟩ := hrel
    by_cases hkn : k < n
    · have hkl : k < D.length := by have := HN.out; omega
      obtain ⟨g, o, B', d, rfl, hS, e0⟩ := elD (H.out.since stD HR.out.s) hkl
      obtain ⟨g2, o2, B2, d2, hA2, hS2, e2⟩ := elD H.out hkl
      injection hA2 with hA2
      injection hA2 with hg ho
      subst hg ho
      have e3 := (HR.out.s.cell _ (World.block_lt_of_cell? _ _ e2)).trans e2
      rw [e3] at e0
      injection e0 with e0
      injection e0 with h1 _ h2
      subst h1 h2
      have T := Lib.hid (Tr.set_take (l := D) (x := x) (m := l) hkl)
      have QE := Lib.hid (show QD w D[k] [.slice B2 D[k].length d2] from ⟨_, rfl, hS2⟩)
      generalize hy : D[k] = y at *
      generalize y.length = p at *
      have hl9 : xs.length ≤ 1000000 := by have := HL.out; omega
      have QV := Lib.hid (show QD w l [.slice VB vm vc] from ⟨_, rfl, HV.out⟩)
      clear hS hS2 hkl hy e2
      rcases Nat.lt_trichotomy k x with c1 | c1 | c1
      case inr.inl =>
        have E := Lib.hid (show (D.set x l).take (k + 1) = (D.set x l).take k ++ [l] by rw [T.out, if_pos c1])
        subst c1
        go_wp2_with (at_builtin; refine wpList_appW kD2 (HR.out.since (since_alloc _ _)) hl9 l (.slice VB vm vc) QV.out rfl wr.heap.size 1 ((Bx.fresh wr _ _).cell 0) (by rfl) _ _ rfl rfl rfl ?_; intro A3 c3 w3 h3 q3)
        go_roundw
        case rel => exact ⟨k + 1, A3, c3, xs ++ [l], by go_num, by rw [HL.out], by omega, Lib.hid (by rw [HX.out]; exact E.out.symm), Lib.hid (by rw [List.length_append, HL.out]; rfl), Lib.hid (by rw [HL.out] at h3; exact h3)⟩
        case measure => simp [intOf]; omega
      all_goals
        have E := Lib.hid (show (D.set x l).take (k + 1) = (D.set x l).take k ++ [y] by rw [T.out, if_neg (by omega)])
        have hne : ¬ (k : Int) = (x : Int) := by omega
        go_wp2_with (at_builtin; refine wpList_appW kD2 (HR.out.since (since_alloc _ _)) hl9 y (.slice B2 p d2) QE.out rfl wr.heap.size 1 ((Bx.fresh wr _ _).cell 0) (by rfl) _ _ rfl rfl rfl ?_; intro A3 c3 w3 h3 q3)
        go_roundw
        case rel => exact ⟨k + 1, A3, c3, xs ++ [y], by go_num, by rw [HL.out], by omega, Lib.hid (by rw [HX.out]; exact E.out.symm), Lib.hid (by rw [List.length_append, HL.out]; rfl), Lib.hid (by rw [HL.out] at h3; exact h3)⟩
        case measure => simp [intOf]; omega
    · obtain rfl : k = n := by omega
      have E := Lib.hid (show xs = D.set x l by rw [HX.out, List.take_of_length_le (by rw [List.length_set]; have := HN.out; omega)])
      go_wp2
      go_ret
      have e := E.out
      subst e
      exact ⟨_, _, _, rfl, HL.out, rq_sl HR.out, HR.out.s⟩
set_option maxRecDepth 20000 in
set_option maxHeartbeats 2000000 in
theorem ropposite_any (v : Value) (a : List Int) (w : World) (h : Sl 1 QI w v a) (hl : a.length ≤ 1000) (hw : a.all within = true) :
    Calls Try.prog 111 #[v] w (fun e w' => ∃ A c, e = .returned (.slice A a.length c) ∧ Sl 1 QI w' (.slice A a.length c) (neg a) ∧ Since w w') := by
  obtain ⟨A, c, rfl⟩ := h.form
  obtain ⟨n, hn⟩ : ∃ n, n = a.length := ⟨_, rfl⟩
  rw [← hn] at h hl ⊢
  have H := Lib.hid h
  have HN := Lib.hid hn
  have HA := Lib.hid (List.all_eq_true.1 hw)
  clear h hn hw
  go_enter Try.func111, Try.ntmps111
  go_wp2
  go_loopw [3, 4] (fun s i wr => ∃ (k : Nat) (B : Option Addr) (cB : Nat) (xs : List Int), i = .int .i64 (k : Int) ∧ s = .slice B k cB ∧ k ≤ n ∧ Hid (xs = neg (a.take k)) ∧ Hid (xs.length = k) ∧ Hid (Rq 2 QI0 w wr (.slice B k cB) xs)) (fun _ i _ => n - (intOf i).toNat)
  case atStart => exact ⟨0, none, 0, [], rfl, rfl, Nat.zero_le _, rfl, rfl, Rq.nil _ _ (Since.refl _)⟩
  case round =>
    obtain ⟨k, B, cB, xs, rfl, rfl, hk, HX, HL, HR⟩ := hrel
    by_cases hkn : k < n
    · have hkl : k < a.length := by have := HN.out; omega
      obtain ⟨g, o, rfl, e0⟩ := elI (H.out.since stI HR.out.s) hkl
      have hwa := (within_iff' _).1 (HA.out _ (List.getElem_mem hkl))
      have T := Lib.hid (neg_take hkl)
      generalize a[k] = y at *
      obtain ⟨hw1, hw2⟩ := hwa
      have WY : IntKind.i64.wrap (-y) = -y := wrap_id' (by omega) (by omega)
      have hl9 : xs.length ≤ 1000000 := by have := HL.out; omega
      clear hkl
      go_wp2_with (at_builtin; refine wpList_appQ nL (HR.out.since (since_alloc _ _)) hl9 (-y) (.int .i64 (-y)) rfl rfl wr.heap.size 1 ((Bx.fresh wr _ _).cell 0) (by rfl) _ _ rfl rfl rfl ?_; intro A3 c3 w3 h3 q3)
      go_roundw
      case rel => exact ⟨k + 1, A3, c3, xs ++ [-y], by go_num, by rw [HL.out], by omega, Lib.hid (by rw [HX.out]; exact T.out.symm), Lib.hid (by rw [List.length_append, HL.out]; rfl), Lib.hid (by rw [HL.out] at h3; exact h3)⟩
      case measure => simp [intOf]; omega
    · obtain rfl : k = n := by omega
      have E := Lib.hid (show xs = neg a by rw [HX.out, List.take_of_length_le (by have := HN.out; omega)])
      go_wp2
      go_ret
      have e := E.out
      subst e
      have h4 := HR.out.sl
      exact ⟨_, _, rfl, h4, HR.out.s⟩
section
open Go.RowKit
set_option linter.unusedVariables false
set_option linter.unusedSimpArgs false
open Go.Proofs.Ytoegbgkgenjplaa.Dig Go.Proofs.Ytoegbgkgenjplaa.Lx Go.Proofs.Ytoegbgkgenjplaa.Tk Go.Proofs.Ytoegbgkgenjplaa.Ti Go.Proofs.Ytoegbgkgenjplaa.Zs Go.Proofs.Ytoegbgkgenjplaa.Tr Go.Proofs.Ytoegbgkgenjplaa.Sn
/-- what a sum is asked with: numbers, variables, domains -/
structure LinIn (w : World) (va vx vd : Value) (a x : List Int) (D : Ds) : Prop where
  pA : Sl 1 QI w va a
  pX : Sl 1 QI w vx x
  pD : Sl 1 QD w vd D
  pG : Gd D
  px : x.all (isV D.length) = true
  pl : a.length ≤ x.length
  pa : a.length ≤ 1000
  pw : a.all within = true
theorem LinIn.since {w w' : World} {va vx vd : Value} {a x : List Int} {D : Ds} (h : LinIn w va vx vd a x D) (k : Since w w') : LinIn w' va vx vd a x D := ⟨h.pA.since stI k, h.pX.since stI k, h.pD.since stD k, h.pG, h.px, h.pl, h.pa, h.pw⟩
set_option maxRecDepth 20000 in
set_option maxHeartbeats 3000000 in
theorem rleast_any (va vx vd : Value) (a x : List Int) (D : Ds) (w : World) (h : LinIn w va vx vd a x D) :
    Calls Try.prog 110 #[va, vx, vd] w (fun e w' => e = .returned (.int .i64 (lsum (tms a x D))) ∧ Since w w' ∧ True) := by
  obtain ⟨h1, h2, h3, hG, hx, hl, ha, hw⟩ := h
  have hTB := tms_bt hG hx hw
  obtain ⟨T, hT⟩ : ∃ T, T = tms a x D := ⟨_, rfl⟩
  have HTA := Lib.hid (fun k (hk : k < a.length) (hk2 : k < x.length) => show T[k]? = some (tm D (a[k], x[k])) by rw [hT]; exact tms_at hl hk)
  rw [← hT] at hTB ⊢
  obtain ⟨R, hR⟩ : ∃ R, R = lsum T := ⟨_, rfl⟩
  rw [← hR]
  obtain ⟨A, ca, rfl⟩ := h1.form
  obtain ⟨X, xc, rfl⟩ := h2.form
  obtain ⟨DA, dc, rfl⟩ := h3.form
  have hTL : T.length = a.length := by rw [hT]; exact tms_len hl
  obtain ⟨n, hn⟩ : ∃ n, n = a.length := ⟨_, rfl⟩
  obtain ⟨nx, hnx⟩ : ∃ n, n = x.length := ⟨_, rfl⟩
  obtain ⟨nd, hnd⟩ : ∃ n, n = D.length := ⟨_, rfl⟩
  rw [← hn] at h1 ha hTL ⊢
  rw [← hnx] at h2 ⊢
  rw [← hnd] at h3 ⊢
  have H1 := Lib.hid h1
  have H2 := Lib.hid h2
  have H3 := Lib.hid h3
  have HN := Lib.hid hn
  have HNX := Lib.hid hnx
  have HND := Lib.hid hnd
  have HL := Lib.hid hl
  have HG := Lib.hid hG
  have HTB := Lib.hid hTB
  have HTL := Lib.hid hTL
  have HR := Lib.hid hR
  have HX := Lib.hid (fun k (hk : k < x.length) => isV_at hx hk)
  clear h1 h2 h3 hG hx hl hw hT hTB hn hnx hnd hR hTL
  go_enter Try.func110, Try.ntmps110
  go_wp2
  go_loopw [7, 8] (fun s i wr => ∃ (k : Nat) (z : Int), i = .int .i64 (k : Int) ∧ s = .int .i64 z ∧ k ≤ n ∧ -1099511627776 * (k : Int) ≤ z ∧ z ≤ 1099511627776 * (k : Int) ∧ Hid (z + lsum (T.drop k) = R) ∧ Hid (Since w wr)) (fun _ i _ => n - (intOf i).toNat)
  case atStart => exact ⟨0, 0, rfl, rfl, Nat.zero_le _, by omega, by omega, HR.out ▸ Int.zero_add _, Since.refl _⟩
  case round =>
    obtain ⟨k, z, rfl, rfl, hk, hz1, hz2, HE, HW⟩ := hrel
    by_cases hkn : k < n
    · have hka : k < a.length := by have := HN.out; omega
      have hkx : k < x.length := by have := HL.out; omega
      have hknx : k < nx := by have := HNX.out; omega
      have hkT : k < T.length := by rw [HTL.out]; exact hkn
      obtain ⟨ga, oa, rfl, ea⟩ := elI (H1.out.since stI HW.out) hka
      obtain ⟨gx, ox, rfl, ex⟩ := elI (H2.out.since stI HW.out) hkx
      obtain ⟨j, hj, hjl⟩ := HX.out k hkx
      have hjn : j < nd := by have := HND.out; omega
      obtain ⟨gd, od, B, cB, rfl, hS, ed⟩ := elD (H3.out.since stD HW.out) hjl
      have hgd := HG.out _ (List.getElem_mem hjl)
      have hTa := HTA.out k hka hkx
      rw [List.getElem?_eq_getElem hkT] at hTa
      injection hTa with hTa
      have hbt := HTB.out _ (List.getElem_mem hkT)
      have hst := HE.out
      rw [dropT hkT, lsum] at hst
      have hdm : domAt D (x[k]) = D[j] := by rw [hj]; simp [domAt, hjl]
      have hE : tm D (a[k], x[k]) = ⟨a[k], lo D[j], hi D[j], (j : Int)⟩ := by simp only [tm]; rw [hdm, hj]
      rw [hTa, hE] at hst hbt
      rw [hj] at ex
      simp only [mnT, Bt] at hst hbt
      have LO := Lib.hid (fun W (kk : Since wr W) => rlo_any hS hgd.2 W kk)
      have HI := Lib.hid (fun W (kk : Since wr W) => rhi_any hS hgd.2 (right_len hgd.1) W kk)
      obtain ⟨hb1, hb2, hb3, -⟩ := hbt
      obtain ⟨p1, p2⟩ := prod_le hb1 hb2
      obtain ⟨q1, q2⟩ := prod_le hb1 hb3
      generalize a[k] = y at *
      generalize lo D[j] = dlo at *
      generalize hi D[j] = dhi at *
      generalize D[j].length = dl at *
      have CA := Lib.hid (fun W (kk : Since wr W) => show W.cell? ⟨ga, oa + k, none⟩ = some (.int .i64 y) from (kk.cell _ (World.block_lt_of_cell? _ _ ea)).trans ea)
      have CX := Lib.hid (fun W (kk : Since wr W) => show W.cell? ⟨gx, ox + k, none⟩ = some (.int .i64 (j : Int)) from (kk.cell _ (World.block_lt_of_cell? _ _ ex)).trans ex)
      have CD := Lib.hid (fun W (kk : Since wr W) => show W.cell? ⟨gd, od + j, none⟩ = some (.slice B dl cB) from (kk.cell _ (World.block_lt_of_cell? _ _ ed)).trans ed)
      generalize hp : y * dlo = p at *
      generalize hq : y * dhi = q at *
      have W1 : IntKind.i64.wrap (y * dlo) = p := by rw [hp]; exact wrap_id' (by omega) (by omega)
      have W2 : IntKind.i64.wrap (y * dhi) = q := by rw [hq]; exact wrap_id' (by omega) (by omega)
      obtain ⟨dd, hdd⟩ : ∃ dd, (if q < p then q else p) = dd := ⟨_, rfl⟩
      have hd1 : -1099511627776 ≤ dd := by rw [← hdd]; split <;> omega
      have hd2 : dd ≤ 1099511627776 := by rw [← hdd]; split <;> omega
      have hdm2 : min p q = dd := by rw [← hdd]; split <;> omega
      have WZ : IntKind.i64.wrap (z + dd) = z + dd := wrap_id' (by omega) (by omega)
      have HM := Lib.hid (show z + dd + lsum (T.drop (k + 1)) = R by rw [← hst, hdm2]; omega)
      clear hst HE hdm2 hb1 hb2 hb3 hp hq hS hgd hTa hdm hE hka hkx hkT hj hjl ea ex ed
      go_wp2
      have hr0 : Since wr wr.drew := Since.drew (Since.refl wr)
      refine wp_region_noPanic ?_
      refine Reg.wp_region_G (S := fun _ => True) (fun j => [].contains j) (by kernel_rfl) trivial ?_
      refine' Reg.tk (i := 0) (oi := { dst := some 15, op := Op.move (Operand.tmp 7), type := 2, pos := "ref.go:67", after := #[], guard := none }) (v := _) [28, 29] [] (Or.inl ⟨by rfl, Or.inl ?hy2⟩) ?rest2
      case hy2 => (intro w' kk ss; have qa := CA.out _ (hr0.trans kk); have qx := CX.out _ (hr0.trans kk); have qd := CD.out _ (hr0.trans kk); go_simp; first | done | with_reducible rfl)
      try simp only [Act.put, List.setIfInBounds_toArray, List.set_cons_zero, List.set_cons_succ]
      refine' Reg.tk (i := 1) (oi := { dst := some 16, op := Op.move (Operand.tmp 0), type := 23, pos := "ref.go:67", after := #[], guard := none }) (v := _) [3, 4, 13, 27, 28, 29] [] (Or.inl ⟨by rfl, Or.inl ?hy3⟩) ?rest3
      case hy3 => (intro w' kk ss; have qa := CA.out _ (hr0.trans kk); have qx := CX.out _ (hr0.trans kk); have qd := CD.out _ (hr0.trans kk); go_simp; first | done | with_reducible rfl)
      try simp only [Act.put, List.setIfInBounds_toArray, List.set_cons_zero, List.set_cons_succ]
      refine' Reg.tk (i := 2) (oi := { dst := some 17, op := Op.move (Operand.tmp 8), type := 3, pos := "ref.go:67", after := #[], guard := none }) (v := _) [3, 4, 13, 27, 28, 29] [] (Or.inl ⟨by rfl, Or.inl ?hy4⟩) ?rest4
      case hy4 => (intro w' kk ss; have qa := CA.out _ (hr0.trans kk); have qx := CX.out _ (hr0.trans kk); have qd := CD.out _ (hr0.trans kk); go_simp; first | done | with_reducible rfl)
      try simp only [Act.put, List.setIfInBounds_toArray, List.set_cons_zero, List.set_cons_succ]
      refine' Reg.tk (i := 3) (oi := { dst := some 18, op := Op.indexAddr 23 (Operand.tmp 16) (Operand.tmp 17), type := 0, pos := "ref.go:67", after := #[{ on := 1, ground := Ground.data }, { on := 2, ground := Ground.data }], guard := none }) (v := _) [4, 13, 27, 28, 29] [] (Or.inl ⟨by rfl, Or.inl ?hy5⟩) ?rest5
      case hy5 => (intro w' kk ss; have qa := CA.out _ (hr0.trans kk); have qx := CX.out _ (hr0.trans kk); have qd := CD.out _ (hr0.trans kk); go_simp; first | done | with_reducible rfl)
      try simp only [Act.put, List.setIfInBounds_toArray, List.set_cons_zero, List.set_cons_succ]
      refine' Reg.tk (i := 4) (oi := { dst := some 19, op := Op.load 2 (Operand.tmp 18), type := 2, pos := "ref.go:67", after := #[{ on := 3, ground := Ground.data }], guard := none }) (v := _) [13, 27, 28, 29] [] (Or.inl ⟨by rfl, Or.inl ?hy6⟩) ?rest6
      case hy6 => (intro w' kk ss; have qa := CA.out _ (hr0.trans kk); have qx := CX.out _ (hr0.trans kk); have qd := CD.out _ (hr0.trans kk); go_simp; first | done | with_reducible rfl)
      try simp only [Act.put, List.setIfInBounds_toArray, List.set_cons_zero, List.set_cons_succ]
      refine' Reg.tk (i := 5) (oi := { dst := some 20, op := Op.move (Operand.tmp 2), type := 30, pos := "ref.go:67", after := #[], guard := none }) (v := _) [10, 11, 12, 13, 25, 26, 27, 28, 29] [] (Or.inl ⟨by rfl, Or.inl ?hy7⟩) ?rest7
      case hy7 => (intro w' kk ss; have qa := CA.out _ (hr0.trans kk); have qx := CX.out _ (hr0.trans kk); have qd := CD.out _ (hr0.trans kk); go_simp; first | done | with_reducible rfl)
      try simp only [Act.put, List.setIfInBounds_toArray, List.set_cons_zero, List.set_cons_succ]
      refine' Reg.tk (i := 6) (oi := { dst := some 21, op := Op.move (Operand.tmp 1), type := 22, pos := "ref.go:67", after := #[], guard := none }) (v := _) [8, 9, 10, 11, 12, 13, 25, 26, 27, 28, 29] [] (Or.inl ⟨by rfl, Or.inl ?hy8⟩) ?rest8
      case hy8 => (intro w' kk ss; have qa := CA.out _ (hr0.trans kk); have qx := CX.out _ (hr0.trans kk); have qd := CD.out _ (hr0.trans kk); go_simp; first | done | with_reducible rfl)
      try simp only [Act.put, List.setIfInBounds_toArray, List.set_cons_zero, List.set_cons_succ]
      refine' Reg.tk (i := 7) (oi := { dst := some 22, op := Op.move (Operand.tmp 8), type := 3, pos := "ref.go:67", after := #[], guard := none }) (v := _) [8, 9, 10, 11, 12, 13, 25, 26, 27, 28, 29] [] (Or.inl ⟨by rfl, Or.inl ?hy9⟩) ?rest9
      case hy9 => (intro w' kk ss; have qa := CA.out _ (hr0.trans kk); have qx := CX.out _ (hr0.trans kk); have qd := CD.out _ (hr0.trans kk); go_simp; first | done | with_reducible rfl)
      try simp only [Act.put, List.setIfInBounds_toArray, List.set_cons_zero, List.set_cons_succ]
      refine' Reg.tk (i := 8) (oi := { dst := some 23, op := Op.indexAddr 22 (Operand.tmp 21) (Operand.tmp 22), type := 0, pos := "ref.go:67", after := #[{ on := 6, ground := Ground.data }, { on := 7, ground := Ground.data }], guard := none }) (v := _) [9, 10, 11, 12, 13, 25, 26, 27, 28, 29] [] (Or.inl ⟨by rfl, Or.inl ?hy10⟩) ?rest10
      case hy10 => (intro w' kk ss; have qa := CA.out _ (hr0.trans kk); have qx := CX.out _ (hr0.trans kk); have qd := CD.out _ (hr0.trans kk); go_simp; first | done | with_reducible rfl)
      try simp only [Act.put, List.setIfInBounds_toArray, List.set_cons_zero, List.set_cons_succ]
      refine' Reg.tk (i := 9) (oi := { dst := some 24, op := Op.load 3 (Operand.tmp 23), type := 3, pos := "ref.go:67", after := #[{ on := 8, ground := Ground.data }], guard := none }) (v := _) [10, 11, 12, 13, 25, 26, 27, 28, 29] [] (Or.inl ⟨by rfl, Or.inl ?hy11⟩) ?rest11
      case hy11 => (intro w' kk ss; have qa := CA.out _ (hr0.trans kk); have qx := CX.out _ (hr0.trans kk); have qd := CD.out _ (hr0.trans kk); go_simp; first | done | with_reducible rfl)
      try simp only [Act.put, List.setIfInBounds_toArray, List.set_cons_zero, List.set_cons_succ]
      refine' Reg.tk (i := 10) (oi := { dst := some 25, op := Op.indexAddr 30 (Operand.tmp 20) (Operand.tmp 24), type := 0, pos := "ref.go:67", after := #[{ on := 5, ground := Ground.data }, { on := 9, ground := Ground.data }], guard := none }) (v := _) [11, 12, 13, 25, 26, 27, 28, 29] [] (Or.inl ⟨by rfl, Or.inl ?hy12⟩) ?rest12
      case hy12 => (intro w' kk ss; have qa := CA.out _ (hr0.trans kk); have qx := CX.out _ (hr0.trans kk); have qd := CD.out _ (hr0.trans kk); go_simp; first | done | with_reducible rfl)
      try simp only [Act.put, List.setIfInBounds_toArray, List.set_cons_zero, List.set_cons_succ]
      refine' Reg.tk (i := 11) (oi := { dst := some 26, op := Op.load 50 (Operand.tmp 25), type := 50, pos := "ref.go:67", after := #[{ on := 10, ground := Ground.data }], guard := none }) (v := _) [12, 13, 25, 26, 27, 28, 29] [] (Or.inl ⟨by rfl, Or.inl ?hy13⟩) ?rest13
      case hy13 => (intro w' kk ss; have qa := CA.out _ (hr0.trans kk); have qx := CX.out _ (hr0.trans kk); have qd := CD.out _ (hr0.trans kk); go_simp; first | done | with_reducible rfl)
      try simp only [Act.put, List.setIfInBounds_toArray, List.set_cons_zero, List.set_cons_succ]
      refine Reg.tk (i := 12) (oi := { dst := some 27, op := Op.call { callee := Callee.value (Operand.func 75), args := #[Operand.tmp 26], argTypes := #[50] }, type := 2, pos := "ref.go:67", after := #[{ on := 11, ground := Ground.data }], guard := none }) (v := .int .i64 dlo) [13, 25, 26, 27, 28, 29] [] (Or.inl ⟨by rfl, Or.inr ⟨75, #[.slice B dl cB], fun w' kk ss => ⟨?_, ?_⟩⟩⟩) ?_
      · (try dsimp only at ss); go_simp
      · exact LO.out w' (hr0.trans kk)
      try simp only [Act.put, List.setIfInBounds_toArray, List.set_cons_zero, List.set_cons_succ]
      refine' Reg.tk (i := 13) (oi := { dst := some 28, op := Op.binOp BinOp.mul 2 (Operand.tmp 19) (Operand.tmp 27) 2, type := 2, pos := "ref.go:67", after := #[{ on := 4, ground := Ground.data }, { on := 12, ground := Ground.data }], guard := none }) (v := _) [27, 28, 29] [] (Or.inl ⟨by rfl, Or.inl ?hy14⟩) ?rest14
      case hy14 => (intro w' kk ss; have qa := CA.out _ (hr0.trans kk); have qx := CX.out _ (hr0.trans kk); have qd := CD.out _ (hr0.trans kk); go_simp; first | done | with_reducible rfl)
      try simp only [Act.put, List.setIfInBounds_toArray, List.set_cons_zero, List.set_cons_succ]
      refine' Reg.tk (i := 14) (oi := { dst := some 29, op := Op.move (Operand.tmp 0), type := 23, pos := "ref.go:67", after := #[], guard := none }) (v := _) [16, 17, 26, 27, 28, 29] [] (Or.inl ⟨by rfl, Or.inl ?hy15⟩) ?rest15
      case hy15 => (intro w' kk ss; have qa := CA.out _ (hr0.trans kk); have qx := CX.out _ (hr0.trans kk); have qd := CD.out _ (hr0.trans kk); go_simp; first | done | with_reducible rfl)
      try simp only [Act.put, List.setIfInBounds_toArray, List.set_cons_zero, List.set_cons_succ]
      refine' Reg.tk (i := 15) (oi := { dst := some 30, op := Op.move (Operand.tmp 8), type := 3, pos := "ref.go:67", after := #[], guard := none }) (v := _) [16, 17, 26, 27, 28, 29] [] (Or.inl ⟨by rfl, Or.inl ?hy16⟩) ?rest16
      case hy16 => (intro w' kk ss; have qa := CA.out _ (hr0.trans kk); have qx := CX.out _ (hr0.trans kk); have qd := CD.out _ (hr0.trans kk); go_simp; first | done | with_reducible rfl)
      try simp only [Act.put, List.setIfInBounds_toArray, List.set_cons_zero, List.set_cons_succ]
      refine' Reg.tk (i := 16) (oi := { dst := some 31, op := Op.indexAddr 23 (Operand.tmp 29) (Operand.tmp 30), type := 0, pos := "ref.go:67", after := #[{ on := 14, ground := Ground.data }, { on := 15, ground := Ground.data }], guard := none }) (v := _) [17, 26, 27, 28, 29] [] (Or.inl ⟨by rfl, Or.inl ?hy17⟩) ?rest17
      case hy17 => (intro w' kk ss; have qa := CA.out _ (hr0.trans kk); have qx := CX.out _ (hr0.trans kk); have qd := CD.out _ (hr0.trans kk); go_simp; first | done | with_reducible rfl)
      try simp only [Act.put, List.setIfInBounds_toArray, List.set_cons_zero, List.set_cons_succ]
      refine' Reg.tk (i := 17) (oi := { dst := some 32, op := Op.load 2 (Operand.tmp 31), type := 2, pos := "ref.go:67", after := #[{ on := 16, ground := Ground.data }], guard := none }) (v := _) [26, 27, 28, 29] [] (Or.inl ⟨by rfl, Or.inl ?hy18⟩) ?rest18
      case hy18 => (intro w' kk ss; have qa := CA.out _ (hr0.trans kk); have qx := CX.out _ (hr0.trans kk); have qd := CD.out _ (hr0.trans kk); go_simp; first | done | with_reducible rfl)
      try simp only [Act.put, List.setIfInBounds_toArray, List.set_cons_zero, List.set_cons_succ]
      refine' Reg.tk (i := 18) (oi := { dst := some 33, op := Op.move (Operand.tmp 2), type := 30, pos := "ref.go:67", after := #[], guard := none }) (v := _) [23, 24, 25, 26, 27, 28, 29] [] (Or.inl ⟨by rfl, Or.inl ?hy19⟩) ?rest19
      case hy19 => (intro w' kk ss; have qa := CA.out _ (hr0.trans kk); have qx := CX.out _ (hr0.trans kk); have qd := CD.out _ (hr0.trans kk); go_simp; first | done | with_reducible rfl)
      try simp only [Act.put, List.setIfInBounds_toArray, List.set_cons_zero, List.set_cons_succ]
      refine' Reg.tk (i := 19) (oi := { dst := some 34, op := Op.move (Operand.tmp 1), type := 22, pos := "ref.go:67", after := #[], guard := none }) (v := _) [21, 22, 23, 24, 25, 26, 27, 28, 29] [] (Or.inl ⟨by rfl, Or.inl ?hy20⟩) ?rest20
      case hy20 => (intro w' kk ss; have qa := CA.out _ (hr0.trans kk); have qx := CX.out _ (hr0.trans kk); have qd := CD.out _ (hr0.trans kk); go_simp; first | done | with_reducible rfl)
      try simp only [Act.put, List.setIfInBounds_toArray, List.set_cons_zero, List.set_cons_succ]
      refine' Reg.tk (i := 20) (oi := { dst := some 35, op := Op.move (Operand.tmp 8), type := 3, pos := "ref.go:67", after := #[], guard := none }) (v := _) [21, 22, 23, 24, 25, 26, 27, 28, 29] [] (Or.inl ⟨by rfl, Or.inl ?hy21⟩) ?rest21
      case hy21 => (intro w' kk ss; have qa := CA.out _ (hr0.trans kk); have qx := CX.out _ (hr0.trans kk); have qd := CD.out _ (hr0.trans kk); go_simp; first | done | with_reducible rfl)
      try simp only [Act.put, List.setIfInBounds_toArray, List.set_cons_zero, List.set_cons_succ]
      refine' Reg.tk (i := 21) (oi := { dst := some 36, op := Op.indexAddr 22 (Operand.tmp 34) (Operand.tmp 35), type := 0, pos := "ref.go:67", after := #[{ on := 19, ground := Ground.data }, { on := 20, ground := Ground.data }], guard := none }) (v := _) [22, 23, 24, 25, 26, 27, 28, 29] [] (Or.inl ⟨by rfl, Or.inl ?hy22⟩) ?rest22
      case hy22 => (intro w' kk ss; have qa := CA.out _ (hr0.trans kk); have qx := CX.out _ (hr0.trans kk); have qd := CD.out _ (hr0.trans kk); go_simp; first | done | with_reducible rfl)
      try simp only [Act.put, List.setIfInBounds_toArray, List.set_cons_zero, List.set_cons_succ]
      refine' Reg.tk (i := 22) (oi := { dst := some 37, op := Op.load 3 (Operand.tmp 36), type := 3, pos := "ref.go:67", after := #[{ on := 21, ground := Ground.data }], guard := none }) (v := _) [23, 24, 25, 26, 27, 28, 29] [] (Or.inl ⟨by rfl, Or.inl ?hy23⟩) ?rest23
      case hy23 => (intro w' kk ss; have qa := CA.out _ (hr0.trans kk); have qx := CX.out _ (hr0.trans kk); have qd := CD.out _ (hr0.trans kk); go_simp; first | done | with_reducible rfl)
      try simp only [Act.put, List.setIfInBounds_toArray, List.set_cons_zero, List.set_cons_succ]
      refine' Reg.tk (i := 23) (oi := { dst := some 38, op := Op.indexAddr 30 (Operand.tmp 33) (Operand.tmp 37), type := 0, pos := "ref.go:67", after := #[{ on := 18, ground := Ground.data }, { on := 22, ground := Ground.data }], guard := none }) (v := _) [24, 25, 26, 27, 28, 29] [] (Or.inl ⟨by rfl, Or.inl ?hy24⟩) ?rest24
      case hy24 => (intro w' kk ss; have qa := CA.out _ (hr0.trans kk); have qx := CX.out _ (hr0.trans kk); have qd := CD.out _ (hr0.trans kk); go_simp; first | done | with_reducible rfl)
      try simp only [Act.put, List.setIfInBounds_toArray, List.set_cons_zero, List.set_cons_succ]
      refine' Reg.tk (i := 24) (oi := { dst := some 39, op := Op.load 50 (Operand.tmp 38), type := 50, pos := "ref.go:67", after := #[{ on := 23, ground := Ground.data }], guard := none }) (v := _) [25, 26, 27, 28, 29] [] (Or.inl ⟨by rfl, Or.inl ?hy25⟩) ?rest25
      case hy25 => (intro w' kk ss; have qa := CA.out _ (hr0.trans kk); have qx := CX.out _ (hr0.trans kk); have qd := CD.out _ (hr0.trans kk); go_simp; first | done | with_reducible rfl)
      try simp only [Act.put, List.setIfInBounds_toArray, List.set_cons_zero, List.set_cons_succ]
      refine Reg.tk (i := 25) (oi := { dst := some 40, op := Op.call { callee := Callee.value (Operand.func 76), args := #[Operand.tmp 39], argTypes := #[50] }, type := 2, pos := "ref.go:67", after := #[{ on := 24, ground := Ground.data }, { on := 12, ground := Ground.chain }], guard := none }) (v := .int .i64 dhi) [26, 27, 28, 29] [] (Or.inl ⟨by rfl, Or.inr ⟨76, #[.slice B dl cB], fun w' kk ss => ⟨?_, ?_⟩⟩⟩) ?_
      · (try dsimp only at ss); go_simp
      · exact HI.out w' (hr0.trans kk)
      try simp only [Act.put, List.setIfInBounds_toArray, List.set_cons_zero, List.set_cons_succ]
      refine' Reg.tk (i := 26) (oi := { dst := some 41, op := Op.binOp BinOp.mul 2 (Operand.tmp 32) (Operand.tmp 40) 2, type := 2, pos := "ref.go:67", after := #[{ on := 17, ground := Ground.data }, { on := 25, ground := Ground.data }], guard := none }) (v := _) [27, 28, 29] [] (Or.inl ⟨by rfl, Or.inl ?hy26⟩) ?rest26
      case hy26 => (intro w' kk ss; have qa := CA.out _ (hr0.trans kk); have qx := CX.out _ (hr0.trans kk); have qd := CD.out _ (hr0.trans kk); go_simp; first | done | with_reducible rfl)
      try simp only [Act.put, List.setIfInBounds_toArray, List.set_cons_zero, List.set_cons_succ]
      refine' Reg.tk (i := 27) (oi := { dst := some 42, op := Op.call { callee := Callee.builtin Builtin.min, args := #[Operand.tmp 28, Operand.tmp 41], argTypes := #[2, 2] }, type := 2, pos := "ref.go:67", after := #[{ on := 13, ground := Ground.data }, { on := 26, ground := Ground.data }], guard := none }) (v := _) [28, 29] [] (Or.inl ⟨by rfl, Or.inl ?hy27⟩) ?rest27
      case hy27 => (intro w' kk ss; have qa := CA.out _ (hr0.trans kk); have qx := CX.out _ (hr0.trans kk); have qd := CD.out _ (hr0.trans kk); go_simp; first | done | with_reducible rfl)
      try simp only [Act.put, List.setIfInBounds_toArray, List.set_cons_zero, List.set_cons_succ]
      refine' Reg.tk (i := 28) (oi := { dst := some 43, op := Op.binOp BinOp.add 2 (Operand.tmp 15) (Operand.tmp 42) 2, type := 2, pos := "ref.go:67", after := #[{ on := 0, ground := Ground.data }, { on := 27, ground := Ground.data }], guard := none }) (v := _) [29] [] (Or.inl ⟨by rfl, Or.inl ?hy28⟩) ?rest28
      case hy28 => (intro w' kk ss; have qa := CA.out _ (hr0.trans kk); have qx := CX.out _ (hr0.trans kk); have qd := CD.out _ (hr0.trans kk); go_simp; first | done | with_reducible rfl)
      try simp only [Act.put, List.setIfInBounds_toArray, List.set_cons_zero, List.set_cons_succ]
      refine' Reg.tk (i := 29) (oi := { dst := some 7, op := Op.assign (Operand.tmp 43), type := 2, pos := "ref.go:67", after := #[{ on := 28, ground := Ground.data }, { on := 25, ground := Ground.chain }, { on := 0, ground := Ground.phase }, { on := 1, ground := Ground.phase }, { on := 2, ground := Ground.phase }, { on := 3, ground := Ground.phase }, { on := 4, ground := Ground.phase }, { on := 5, ground := Ground.phase }, { on := 6, ground := Ground.phase }, { on := 7, ground := Ground.phase }, { on := 8, ground := Ground.phase }, { on := 9, ground := Ground.phase }, { on := 10, ground := Ground.phase }, { on := 11, ground := Ground.phase }, { on := 12, ground := Ground.phase }, { on := 13, ground := Ground.phase }, { on := 14, ground := Ground.phase }, { on := 15, ground := Ground.phase }, { on := 16, ground := Ground.phase }, { on := 17, ground := Ground.phase }, { on := 18, ground := Ground.phase }, { on := 19, ground := Ground.phase }, { on := 20, ground := Ground.phase }, { on := 21, ground := Ground.phase }, { on := 22, ground := Ground.phase }, { on := 23, ground := Ground.phase }, { on := 24, ground := Ground.phase }, { on := 25, ground := Ground.phase }, { on := 26, ground := Ground.phase }, { on := 27, ground := Ground.phase }, { on := 28, ground := Ground.phase }], guard := none }) (v := _) [] [] (Or.inl ⟨by rfl, Or.inl ?hy29⟩) ?rest29
      case hy29 => (intro w' kk ss; have qa := CA.out _ (hr0.trans kk); have qx := CX.out _ (hr0.trans kk); have qd := CD.out _ (hr0.trans kk); go_simp; first | done | with_reducible rfl)
      try simp only [Act.put, List.setIfInBounds_toArray, List.set_cons_zero, List.set_cons_succ]
      refine Reg.wpG_done (by kernel_rfl) (fun we ke se => ?_) _
      refine NoPanic.normal ?_
      have hr0 := hr0.trans ke
      clear ke
      go_wp2
      go_roundw
      case rel => exact ⟨k + 1, z + dd, by go_num, rfl, by omega, by omega, by omega, HM.out, HW.out.trans hr0⟩
      case measure => simp [intOf]; omega
    · obtain rfl : k = n := by omega
      have HE2 := Lib.hid (show z = R by rw [← HE.out, List.drop_of_length_le (by have := HTL.out; omega)]; simp [lsum])
      go_wp2
      go_ret
      exact ⟨congrArg (fun q => Ending.returned (.int .i64 q)) HE2.out, HW.out, trivial⟩
theorem rfloor_any (r n : Int) (hr : 0 ≤ r ∧ r ≤ 1125899906842624) (hn : 0 < n ∧ n ≤ 1048576) (W : World) :
    Calls Try.prog 137 #[.int .i64 r, .int .i64 n] W (fun e w' => e = .returned (.tuple #[.int .i64 (r / n), .int .i64 0]) ∧ w' = W) := by
  obtain ⟨hr1, hr2⟩ := hr
  obtain ⟨hn1, hn2⟩ := hn
  have q1 : r.tdiv n = r / n := Int.tdiv_eq_ediv_of_nonneg hr1
  have q2 : 0 ≤ r / n := Int.ediv_nonneg hr1 (by omega)
  have q3 : r / n ≤ r := Int.ediv_le_self n hr1
  have W1 : IntKind.i64.wrap (r / n) = r / n := wrap_id' (by omega) (by omega)
  generalize hq : r / n = q at *
  have hne : n ≠ 0 := by omega
  have hlow : r ≠ -9223372036854775808 := by omega
  have hrn : ¬ r < 0 := by omega
  have hnn : ¬ n < 0 := by omega
  obtain ⟨m, hm⟩ : ∃ m, r.tmod n = m := ⟨_, rfl⟩
  by_cases c : m = 0
  · subst c
    go_enter Try.func137, Try.ntmps137
    go_wp2
    go_ret2
    exact ⟨rfl, rfl⟩
  · go_enter Try.func137, Try.ntmps137
    go_wp2
    go_ret2
    exact ⟨rfl, rfl⟩
end
section
open Go.RowKit
set_option linter.unusedVariables false
set_option linter.unusedSimpArgs false
open Go.Proofs.Ytoegbgkgenjplaa.Dig Go.Proofs.Ytoegbgkgenjplaa.Lx Go.Proofs.Ytoegbgkgenjplaa.Tk Go.Proofs.Ytoegbgkgenjplaa.Ti Go.Proofs.Ytoegbgkgenjplaa.Zs Go.Proofs.Ytoegbgkgenjplaa.Tr Go.Proofs.Ytoegbgkgenjplaa.Sn
set_option maxRecDepth 20000 in
set_option maxHeartbeats 2000000 in
theorem rfit_any (v vd : Value) (c : Cn) (ds : List (List Rn)) (w : World) (h : ConAt w v c) (hd : Sl 1 QD w vd ds) (hs : SzM ⟨ds, [c], 0, 0⟩) (hbd : ∀ d ∈ ds, Bd d) :
    Calls Try.prog 26 #[v, vd] w (fun e w' => e = .returned (.bool (modOk ⟨ds, [c], 0, 0⟩)) ∧ Since w w' ∧ True) := by
  have MR := Lib.hid (fun W v (k : Since w W) (h : ModAt W v ⟨ds, [c], 0, 0⟩) => rmright_any v ⟨ds, [c], 0, 0⟩ W h hs hbd)
  obtain ⟨R, hR⟩ : ∃ R, R = modOk ⟨ds, [c], 0, 0⟩ := ⟨_, rfl⟩
  rw [← hR] at MR ⊢
  obtain ⟨vx, vy, rfl, h1, h2⟩ := h
  obtain ⟨ck, cx, ca, cc⟩ := c
  simp only at *
  obtain ⟨X, xc, rfl⟩ := h1.form
  obtain ⟨Y, yc, rfl⟩ := h2.form
  obtain ⟨D, dc, rfl⟩ := hd.form
  generalize hnx : cx.length = nx at *
  generalize hny : ca.length = ny at *
  generalize hnd : ds.length = nd at *
  have ka := since_alloc w (.cells #[.int .i64 ck, .slice X nx xc, .slice Y ny yc, .int .i64 cc] 25)
  have kb := since_alloc (w.alloc (.cells #[.int .i64 ck, .slice X nx xc, .slice Y ny yc, .int .i64 cc] 25)) (.cells #[.int .i64 ck, .slice X nx xc, .slice Y ny yc, .int .i64 cc] 25)
  have CL := con_lit (w.alloc (.cells #[.int .i64 ck, .slice X nx xc, .slice Y ny yc, .int .i64 cc] 25)) ⟨ck, cx, ca, cc⟩ (.slice X nx xc) (.slice Y ny yc) (h1.since stI ka) (h2.since stI ka)
  rw [show (w.alloc (.cells #[.int .i64 ck, .slice X nx xc, .slice Y ny yc, .int .i64 cc] 25)).heap.size = w.heap.size + 1 by simp] at CL
  simp only at CL
  have M := Lib.hid (MR.out ((w.alloc (.cells #[.int .i64 ck, .slice X nx xc, .slice Y ny yc, .int .i64 cc] 25)).alloc (.cells #[.int .i64 ck, .slice X nx xc, .slice Y ny yc, .int .i64 cc] 25)) (.agg #[.slice D nd dc, .slice (some ⟨w.heap.size + 1, 0, none⟩) 1 1, .int .i64 0, .int .i64 0]) (ka.trans kb) ⟨_, _, rfl, hd.since stD (ka.trans kb), CL⟩)
  have K := Lib.hid (ka.trans kb)
  obtain ⟨b0, b1, b2, b3⟩ := bx4 (Bx.fresh w #[.int .i64 ck, .slice X nx xc, .slice Y ny yc, .int .i64 cc] 25)
  clear MR hR h1 h2 hd hs CL ka kb hnx hny hnd hbd
  go_enter Try.func26, Try.ntmps26
  go_wp2_with (go_at_call 54; (with_reducible refine M.out.mono ?_); rintro e w2 ⟨rfl, k2⟩; have K2 := Lib.hid (K.out.trans k2); clear k2)
  go_ret
  exact ⟨rfl, K2.out, trivial⟩
end
end Go.Proofs.Ytoegbgkgenjplaa.Ln
