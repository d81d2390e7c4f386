/- Layer 12 (linear): the landed termsOf. -/
import Derived.Test.YtoegbgkgenjplaaLa
import Derived.Test.YtoegbgkgenjplaaEe
import Derived.Test.YtoegbgkgenjplaaQat
namespace Go.Proofs.Ytoegbgkgenjplaa.Ln
open Go.RowKit
set_option linter.unusedVariables false
set_option linter.unusedSimpArgs false
open Go.Proofs.Ytoegbgkgenjplaa.Dig Go.Proofs.Ytoegbgkgenjplaa.Lx Go.Proofs.Ytoegbgkgenjplaa.Tk Go.Proofs.Ytoegbgkgenjplaa.Ti Go.Proofs.Ytoegbgkgenjplaa.Zs Go.Proofs.Ytoegbgkgenjplaa.Tr Go.Proofs.Ytoegbgkgenjplaa.Sn
theorem ends_lohi {d : List Rn} (h : right d = true) (hd : d ≠ []) : ends d = some (lo d, hi d) := by
  unfold ends
  rw [if_pos h]
  cases d with
  | nil => exact absurd rfl hd
  | cons r l =>
    have e : (r :: l).getLast? = some ((r :: l).getD ((r :: l).length - 1) (0, 0)) := by rw [List.getLast?_eq_getElem?]; simp [List.getD]
    rw [List.head?_cons, e]; rfl
theorem ends_at2 {B : Option Addr} {m cB : Nat} {d : List Rn} {W : World} (hS : Sl 2 QR W (.slice B m cB) d) (hr : right d = true) (hd : d ≠ []) :
    Calls Try.prog 132 #[.slice B m cB] W (fun e w' => e = .returned (.tuple #[.agg #[.int .i64 (lo d), .int .i64 (hi d)], .bool true]) ∧ Since W w') := by
  have := ends_any _ d W hS (right_len hr) (okF_bd hr (Int.le_refl _))
  rw [ends_lohi hr hd] at this
  exact this
set_option maxRecDepth 20000 in
set_option maxHeartbeats 3000000 in
theorem termsOf_any (v vd : Value) (c : Cn) (ds : Ds) (w : World) (h : ConAt w v c) (hd : Sl 1 QD w vd ds) (hg : Gd ds) (hx : c.x.all (isV ds.length) = true) (hl : c.a.length ≤ c.x.length) (ha : c.a.length ≤ 1000) :
    Calls Try.prog 93 #[v, vd] w (fun e w' => ∃ A m cA, e = .returned (.slice A m cA) ∧ (tms c.a c.x ds).length = m ∧ NewT w w' (.slice A m cA) (tms c.a c.x ds) ∧ Since w w') := by
  obtain ⟨vx, vy, rfl, h1, h2⟩ := h
  obtain ⟨ck, cx, ca, cc⟩ := c
  simp only at *
  obtain ⟨X, xc, rfl⟩ := h1.form
  obtain ⟨Y, yc, rfl⟩ := h2.form
  obtain ⟨D, dc, rfl⟩ := hd.form
  obtain ⟨n, hn⟩ : ∃ n, n = ca.length := ⟨_, rfl⟩
  obtain ⟨T, hT⟩ : ∃ T, T = tms ca cx ds := ⟨_, rfl⟩
  have HT := Lib.hid (fun k (hk : k < ca.length) (hk2 : k < cx.length) => show T.take (k + 1) = T.take k ++ [tm ds (ca[k], cx[k])] by rw [hT]; exact tms_take hl hk)
  have HTL := Lib.hid (show T.length = n by rw [hT, hn]; exact tms_len hl)
  rw [← hT]
  obtain ⟨nx, hnx⟩ : ∃ n, n = cx.length := ⟨_, rfl⟩
  obtain ⟨nd, hnd⟩ : ∃ n, n = ds.length := ⟨_, rfl⟩
  rw [← hnx] at h1 ⊢
  rw [← hnd] at hd ⊢
  have HNX := Lib.hid hnx
  have HND := Lib.hid hnd
  have H1 := Lib.hid h1
  have H2 := Lib.hid h2
  have HD := Lib.hid hd
  have HG := Lib.hid hg
  have HX := Lib.hid (fun k (hk : k < cx.length) => isV_at hx hk)
  have HN := Lib.hid hn
  have HL := Lib.hid hl
  rw [← hn] at ha h2
  have HY := Lib.hid (show Sl 1 QI w (.slice Y n yc) ca from h2)
  rw [← hn]
  have ka := Lib.hid (since_alloc w (.cells #[.int .i64 ck, .slice X nx xc, .slice Y n yc, .int .i64 cc] 25))
  have BC := Lib.hid (Bx.fresh w #[.int .i64 ck, .slice X nx xc, .slice Y n yc, .int .i64 cc] 25)
  have NX := Lib.hid (show n ≤ nx by omega)
  clear h1 h2 hd hg hx hn hl hT H2
  clear hnx hnd
  go_enter Try.func93, Try.ntmps93
  obtain ⟨b0, b1, b2, b3⟩ := bx4 BC.out
  go_wp2
  go_loopw [5, 14] (fun s i wr => ∃ (k : Nat) (A : Option Addr) (cA : Nat) (xs : List Tm), i = .int .i64 (k : Int) ∧ s = .slice A k cA ∧ k ≤ n ∧ Hid (xs = T.take k) ∧ Hid (xs.length = k) ∧ Hid (Rt (w.alloc (.cells #[.int .i64 ck, .slice X nx xc, .slice Y n yc, .int .i64 cc] 25)) wr (.slice A k cA) xs)) (fun _ i _ => n - (intOf i).toNat)
  case atStart => exact ⟨0, none, 0, [], rfl, rfl, Nat.zero_le _, rfl, rfl, .nil (Since.refl _)⟩
  case round =>
    obtain ⟨k, A, cA, xs, rfl, rfl, hk, HXS, HXL, HR⟩ := hrel
    by_cases hkn : k < n
    · have hkl : k < ca.length := by have := HN.out; omega
      have hkx : k < cx.length := by have := NX.out; have := HNX.out; omega
      have hknx : k < nx := by have := NX.out; omega
      obtain ⟨b0, b1, b2, b3⟩ := bx4 (BC.out.since HR.out.2)
      obtain ⟨gy, oy, rfl, ey⟩ := elI (HY.out.since stI (ka.out.trans HR.out.2)) hkl
      obtain ⟨gx, ox, rfl, ex⟩ := elI (H1.out.since stI (ka.out.trans HR.out.2)) hkx
      obtain ⟨j, hj, hjn⟩ := HX.out k hkx
      have hjl : j < ds.length := hjn
      have hjd : j < nd := by have := HND.out; omega
      obtain ⟨gd, od, B, cB, rfl, hS, ed⟩ := elD (HD.out.since stD (ka.out.trans HR.out.2)) hjl
      have hgd := HG.out _ (List.getElem_mem hjl)
      have T1 := Lib.hid (HT.out k hkl hkx)
      have hdm : domAt ds (cx[k]) = ds[j] := by rw [hj]; simp [domAt, hjl]
      rw [hj] at ex
      have hE : tm ds (ca[k], cx[k]) = ⟨ca[k], lo ds[j], hi ds[j], (j : Int)⟩ := by simp only [tm]; rw [hdm, hj]
      have T2 := Lib.hid (show T.take (k + 1) = T.take k ++ [⟨ca[k], lo ds[j], hi ds[j], (j : Int)⟩] by rw [T1.out, hE])
      clear T1 hE hdm
      generalize ca[k] = y at *
      have EN := Lib.hid (ends_at2 hS hgd.1 hgd.2)
      generalize ds[j] = d at *
      generalize lo d = dlo at *
      generalize hi d = dhi at *
      generalize d.length = dl at *
      have QQ := Lib.hid (fun (w2 : World) => bx4 (Bx.fresh (w2.alloc (.cells #[.int .i64 dlo, .int .i64 dhi] 49)) #[.int .i64 y, .int .i64 dlo, .int .i64 dhi, .int .i64 (j : Int)] 91))
      have hgs : ∀ w2 : World, (w2.alloc (.cells #[.int .i64 dlo, .int .i64 dhi] 49)).heap.size = w2.heap.size + 1 := fun w2 => by simp
      simp only [hgs] at QQ
      have hx9 : xs.length ≤ 1000000 := by have := HXL.out; omega
      clear hS hgd hkl hkx hj hjl hgs
      go_wp2_with (first
        | (go_at_call 132; (with_reducible refine (EN.out).mono ?_); rintro e w2 ⟨rfl, k2⟩; have K2 := Lib.hid k2; clear k2; obtain ⟨p0, p1⟩ := (Bx.fresh w2 #[.int .i64 dlo, .int .i64 dhi] 49).two)
        | (at_builtin; refine wpList_appT (HR.out.since (K2.out.trans ((since_alloc _ _).trans (since_alloc _ _)))) hx9 ⟨y, dlo, dhi, (j : Int)⟩ (w2.heap.size + 1) 1 (QQ.out w2).1 (QQ.out w2).2.1 (QQ.out w2).2.2.1 (QQ.out w2).2.2.2 (by rfl) _ _ rfl rfl rfl ?_; intro A3 c3 w3 h3 q3))
      go_roundw
      case rel => exact ⟨k + 1, A3, c3, xs ++ [⟨y, dlo, dhi, (j : Int)⟩], by go_num, by rw [HXL.out], by omega, Lib.hid (by rw [HXS.out]; exact T2.out.symm), Lib.hid (by rw [List.length_append, HXL.out]; rfl), Lib.hid (by rw [HXL.out] at h3; exact h3)⟩
      case measure => simp [intOf]; omega
    · obtain rfl : k = n := by omega
      have HE := Lib.hid (show xs = T by rw [HXS.out, List.take_of_length_le (by have := HTL.out; omega)])
      go_wp2
      go_ret
      have e := HE.out
      subst e
      exact ⟨A, k, cA, rfl, HXL.out, ⟨HR.out.sl, fun b hb => Nat.le_trans ka.out.size (HR.out.1.lt b hb).1⟩, ka.out.trans HR.out.2⟩
section
open Go.RowKit
set_option linter.unusedVariables false
set_option linter.unusedSimpArgs false
open Go.Proofs.Ytoegbgkgenjplaa.Dig Go.Proofs.Ytoegbgkgenjplaa.Lx Go.Proofs.Ytoegbgkgenjplaa.Tk Go.Proofs.Ytoegbgkgenjplaa.Ti Go.Proofs.Ytoegbgkgenjplaa.Zs Go.Proofs.Ytoegbgkgenjplaa.Tr Go.Proofs.Ytoegbgkgenjplaa.Sn
set_option maxRecDepth 20000 in
set_option maxHeartbeats 3000000 in
theorem least_any (v : Value) (ts : List Tm) (w : World) (h : Sl 4 QT w v ts) (hl : ts.length ≤ 1000) (hb : ∀ t ∈ ts, Bt t) :
    Calls Try.prog 94 #[v] w (fun e w' => e = .returned (.int .i64 (lsum ts)) ∧ Since w w' ∧ True) := by
  obtain ⟨A, c, rfl⟩ := h.form
  obtain ⟨R, hR⟩ : ∃ R, R = lsum ts := ⟨_, rfl⟩
  rw [← hR]
  obtain ⟨n, hn⟩ : ∃ n, n = ts.length := ⟨_, rfl⟩
  rw [← hn] at h hl ⊢
  have H := Lib.hid h
  have HN := Lib.hid hn
  have HR := Lib.hid hR
  have HB := Lib.hid hb
  clear h hn hb hR
  go_enter Try.func94, Try.ntmps94
  go_wp2
  go_loopw [3, 8] (fun s i wr => ∃ (k : Nat) (z : Int), i = .int .i64 (k : Int) ∧ s = .int .i64 z ∧ k ≤ n ∧ -1099511627776 * (k : Int) ≤ z ∧ z ≤ 1099511627776 * (k : Int) ∧ Hid (z + lsum (ts.drop k) = R) ∧ Hid (Since w wr)) (fun _ i _ => n - (intOf i).toNat)
  case atStart => exact ⟨0, 0, rfl, rfl, Nat.zero_le _, by omega, by omega, HR.out ▸ Int.zero_add _, Since.refl _⟩
  case round =>
    obtain ⟨k, z, rfl, rfl, hk, hz1, hz2, HE, HW⟩ := hrel
    by_cases hkn : k < n
    · have hkl : k < ts.length := by have := HN.out; omega
      obtain ⟨g, o, rfl, e0, e1, e2, e3⟩ := elT (H.out.since stT HW.out) hkl
      have hst := HE.out
      have hbt := HB.out _ (List.getElem_mem hkl)
      rw [dropT hkl, lsum] at hst
      generalize ts[k] = t at *
      obtain ⟨tn, tl, th, tx⟩ := t
      simp only [mnT, Bt] at hst e0 e1 e2 e3 hbt
      obtain ⟨hb1, hb2, hb3, -⟩ := hbt
      obtain ⟨p1, p2⟩ := prod_le hb1 hb2
      obtain ⟨q1, q2⟩ := prod_le hb1 hb3
      have ka := Lib.hid (since_alloc wr (.cells #[.int .i64 tn, .int .i64 tl, .int .i64 th, .int .i64 tx] 91))
      obtain ⟨r0, r1, r2, r3⟩ := bx4 (Bx.fresh wr #[.int .i64 tn, .int .i64 tl, .int .i64 th, .int .i64 tx] 91)
      generalize hp : tn * tl = p at *
      generalize hq : tn * th = q at *
      have W1 : IntKind.i64.wrap (tn * tl) = p := by rw [hp]; exact wrap_id' (by omega) (by omega)
      have W2 : IntKind.i64.wrap (tn * th) = q := by rw [hq]; exact wrap_id' (by omega) (by omega)
      have M : ∀ d, min p q = d → z + d + lsum (ts.drop (k + 1)) = R := fun d hd => by rw [← hst, hd]; omega
      have HM := Lib.hid M
      clear hst hkl HE M hb1 hb2 hb3 hp hq
      by_cases c1 : q < p
      all_goals
        go_wp2_with (simp only [W1, W2])
        go_roundw
        case rel => exact ⟨k + 1, _, by go_num, rfl, by omega, by omega, by omega, HM.out _ (by omega), HW.out.trans ka.out⟩
        case measure => simp [intOf]; omega
    · obtain rfl : k = n := by omega
      have HE2 := Lib.hid (show z = R by rw [← HE.out, List.drop_of_length_le (by have := HN.out; omega)]; simp [lsum])
      go_wp2
      go_ret
      exact ⟨congrArg (fun q => Ending.returned (.int .i64 q)) HE2.out, HW.out, trivial⟩
set_option maxRecDepth 20000 in
set_option maxHeartbeats 3000000 in
theorem greatest_any (v : Value) (ts : List Tm) (w : World) (h : Sl 4 QT w v ts) (hl : ts.length ≤ 1000) (hb : ∀ t ∈ ts, Bt t) :
    Calls Try.prog 95 #[v] w (fun e w' => e = .returned (.int .i64 (gsum ts)) ∧ Since w w' ∧ True) := by
  obtain ⟨A, c, rfl⟩ := h.form
  obtain ⟨R, hR⟩ : ∃ R, R = gsum ts := ⟨_, rfl⟩
  rw [← hR]
  obtain ⟨n, hn⟩ : ∃ n, n = ts.length := ⟨_, rfl⟩
  rw [← hn] at h hl ⊢
  have H := Lib.hid h
  have HN := Lib.hid hn
  have HR := Lib.hid hR
  have HB := Lib.hid hb
  clear h hn hb hR
  go_enter Try.func95, Try.ntmps95
  go_wp2
  go_loopw [3, 8] (fun s i wr => ∃ (k : Nat) (z : Int), i = .int .i64 (k : Int) ∧ s = .int .i64 z ∧ k ≤ n ∧ -1099511627776 * (k : Int) ≤ z ∧ z ≤ 1099511627776 * (k : Int) ∧ Hid (z + gsum (ts.drop k) = R) ∧ Hid (Since w wr)) (fun _ i _ => n - (intOf i).toNat)
  case atStart => exact ⟨0, 0, rfl, rfl, Nat.zero_le _, by omega, by omega, HR.out ▸ Int.zero_add _, Since.refl _⟩
  case round =>
    obtain ⟨k, z, rfl, rfl, hk, hz1, hz2, HE, HW⟩ := hrel
    by_cases hkn : k < n
    · have hkl : k < ts.length := by have := HN.out; omega
      obtain ⟨g, o, rfl, e0, e1, e2, e3⟩ := elT (H.out.since stT HW.out) hkl
      have hst := HE.out
      have hbt := HB.out _ (List.getElem_mem hkl)
      rw [dropT hkl, gsum] at hst
      generalize ts[k] = t at *
      obtain ⟨tn, tl, th, tx⟩ := t
      simp only [mxT, Bt] at hst e0 e1 e2 e3 hbt
      obtain ⟨hb1, hb2, hb3, -⟩ := hbt
      obtain ⟨p1, p2⟩ := prod_le hb1 hb2
      obtain ⟨q1, q2⟩ := prod_le hb1 hb3
      have ka := Lib.hid (since_alloc wr (.cells #[.int .i64 tn, .int .i64 tl, .int .i64 th, .int .i64 tx] 91))
      obtain ⟨r0, r1, r2, r3⟩ := bx4 (Bx.fresh wr #[.int .i64 tn, .int .i64 tl, .int .i64 th, .int .i64 tx] 91)
      generalize hp : tn * tl = p at *
      generalize hq : tn * th = q at *
      have W1 : IntKind.i64.wrap (tn * tl) = p := by rw [hp]; exact wrap_id' (by omega) (by omega)
      have W2 : IntKind.i64.wrap (tn * th) = q := by rw [hq]; exact wrap_id' (by omega) (by omega)
      have M : ∀ d, max p q = d → z + d + gsum (ts.drop (k + 1)) = R := fun d hd => by rw [← hst, hd]; omega
      have HM := Lib.hid M
      clear hst hkl HE M hb1 hb2 hb3 hp hq
      by_cases c1 : p < q
      all_goals
        go_wp2_with (simp only [W1, W2])
        go_roundw
        case rel => exact ⟨k + 1, _, by go_num, rfl, by omega, by omega, by omega, HM.out _ (by omega), HW.out.trans ka.out⟩
        case measure => simp [intOf]; omega
    · obtain rfl : k = n := by omega
      have HE2 := Lib.hid (show z = R by rw [← HE.out, List.drop_of_length_le (by have := HN.out; omega)]; simp [gsum])
      go_wp2
      go_ret
      exact ⟨congrArg (fun q => Ending.returned (.int .i64 q)) HE2.out, HW.out, trivial⟩
theorem fixed_any (t : Tm) (w : World) : Calls Try.prog 99 #[.agg #[.int .i64 t.n, .int .i64 t.lo, .int .i64 t.hi, .int .i64 t.x]] w (fun e w' => e = .returned (.bool (t.lo == t.hi)) ∧ Since w w' ∧ True) := by
  obtain ⟨tn, tl, th, tx⟩ := t
  simp only
  have ka := Lib.hid (since_alloc w (.cells #[.int .i64 tn, .int .i64 tl, .int .i64 th, .int .i64 tx] 91))
  obtain ⟨r0, r1, r2, r3⟩ := bx4 (Bx.fresh w #[.int .i64 tn, .int .i64 tl, .int .i64 th, .int .i64 tx] 91)
  by_cases c : tl = th
  all_goals
    go_enter Try.func99, Try.ntmps99
    go_wp2
    go_ret
    exact ⟨by simp [c], since_alloc _ _, trivial⟩
end
section
open Go.RowKit
set_option linter.unusedVariables false
set_option linter.unusedSimpArgs false
open Go.Proofs.Ytoegbgkgenjplaa.Dig Go.Proofs.Ytoegbgkgenjplaa.Lx Go.Proofs.Ytoegbgkgenjplaa.Tk Go.Proofs.Ytoegbgkgenjplaa.Ti Go.Proofs.Ytoegbgkgenjplaa.Zs Go.Proofs.Ytoegbgkgenjplaa.Tr Go.Proofs.Ytoegbgkgenjplaa.Sn
theorem set_mid {α : Type} (l m : List α) (a y : α) {k : Nat} (h : k = l.length) : (l ++ a :: m).set k y = l ++ [y] ++ m := by subst h; simp
theorem info_dom : (Try.prog.info? 50).map (fun i => (i.zero, i.size, i.bytes)) = some (some (.slice none 0 0), 1, 24) := by kernel_rfl
theorem make_doms (n : Nat) (hn : n ≤ 1000000) (W : World) : (Instr.makeSlice 30 (.int .i64 (n : Int)) (.int .i64 (n : Int))).run Try.prog W = .ok (.slice (some ⟨W.heap.size, 0, none⟩) n n) (W.alloc (.cells (madeCells #[.slice none 0 0] n) 50)) := by
  obtain ⟨i0, hi, hz0, hz1, hz2⟩ := info_parts info_dom
  have h := run_make (P := Try.prog) W 30 50 i0 (.slice none 0 0) Try.underlying30 hi hz0 .i64 .i64 n n (by omega) (by omega) (by rw [hz2]; omega) (by omega)
  rw [hz1] at h
  simpa [Value.cells] using h
theorem made_doms (w : World) (n : Nat) : DAt w.heap.size n w (w.alloc (.cells (madeCells #[.slice none 0 0] n) 50)) (List.replicate n []) := by
  have hb := Bx.fresh w (madeCells #[.slice none 0 0] n) 50
  have hc : ∀ i, i < n → (w.alloc (.cells (madeCells #[.slice none 0 0] n) 50)).cell? ⟨w.heap.size, i, none⟩ = some (.slice none 0 0) := fun i hi => by
    have := (World.rowIs_made w (.slice none 0 0) n 50).cell hi
    simpa using this
  have hs : (madeCells #[Value.slice none 0 0] n).size = n := by simp [madeCells]
  have hz : ∀ (i : Nat) (u : Value), (madeCells #[Value.slice none 0 0] n)[i]? = some u → u = Value.slice none 0 0 := fun (i : Nat) (u : Value) hu => by
    have hi : i < n := by rw [← hs]; exact (Array.getElem?_eq_some_iff.1 hu).1
    have h1 := hb.cell i
    rw [hc i hi] at h1
    rw [hu] at h1
    exact (Option.some.inj h1).symm
  refine ⟨by simp, _, hb, hs, fun i d hd => ?_, fun i j u u' hu hu' _ b hb1 => by rw [hz i u hu] at hb1; simp [Value.ownBlock] at hb1⟩
  have hi : i < n := by
    have := (List.getElem?_eq_some_iff.1 hd).1
    simpa using this
  have hd2 : d = [] := by
    rw [List.getElem?_replicate, if_pos hi] at hd
    exact (Option.some.inj hd).symm
  subst hd2
  have h1 := hb.cell i
  rw [hc i hi] at h1
  refine ⟨.slice none 0 0, ?_, Sl.nil _ _ _, fun b hb => by simp [Value.ownBlock] at hb⟩
  have hi2 : i < (madeCells #[Value.slice none 0 0] n).size := by omega
  simpa [hi2] using h1.symm
set_option maxRecDepth 20000 in
set_option maxHeartbeats 2000000 in
theorem copied_any (v : Value) (ds : Ds) (w : World) (h : Sl 1 QD w v ds) (hl : ds.length ≤ 100000) (hd : ∀ d ∈ ds, d.length ≤ 1100000) :
    Calls Try.prog 63 #[v] w (fun e w' => ∃ g n, e = .returned (.slice (some ⟨g, 0, none⟩) n n) ∧ n = ds.length ∧ w.heap.size ≤ g ∧ g < w'.heap.size ∧ DAt g n w w' ds ∧ Since w w') := by
  obtain ⟨A, c, rfl⟩ := h.form
  obtain ⟨n, hn⟩ : ∃ n, n = ds.length := ⟨_, rfl⟩
  rw [← hn] at h hl ⊢
  have H := Lib.hid h
  have HN := Lib.hid hn
  have HD := Lib.hid hd
  have hmk := make_doms n (by omega)
  have MD := Lib.hid (made_doms w n)
  clear h hn hd
  go_enter Try.func63, Try.ntmps63
  go_wp2
  go_loopw [11] (fun i wr => ∃ (k : Nat), i = .int .i64 (k : Int) ∧ k ≤ n ∧ Hid (w.heap.size < wr.heap.size) ∧ Hid (DAt w.heap.size n w wr (ds.take k ++ List.replicate (n - k) [])) ∧ Hid (Since w wr)) (fun i _ => n - (intOf i).toNat)
  case atStart => exact ⟨0, rfl, Nat.zero_le _, Lib.hid (by simp), Lib.hid (by simpa using MD.out), Lib.hid (since_alloc _ _)⟩
  case round =>
    obtain ⟨k, rfl, hk, HS, HR, HW⟩ := hrel
    by_cases hkn : k < n
    · have hkl : k < ds.length := by have := HN.out; omega
      obtain ⟨g, o, B, cB, rfl, hS, e0⟩ := elD (H.out.since stD HW.out) hkl
      have T := Lib.hid (List.take_succ_eq_append_getElem hkl)
      have hdl := HD.out _ (List.getElem_mem hkl)
      generalize ds[k] = y at *
      have CL := Lib.hid (rclone_any _ y wr hS (by omega))
      have hfz : wr.frozen? ⟨w.heap.size, k, none⟩ = false := HR.out.no hkn
      generalize y.length = p at *
      have PU := Lib.hid (fun (w2 : World) (u : Value) (k2 : Since wr w2) (hu : Sl 2 QR w2 u y) (hb : ∀ b, u.ownBlock = some b → wr.heap.size ≤ b ∧ b < w2.heap.size ∧ ∀ j, w2.frozen? ⟨b, j, none⟩ = false) => HR.out.put2 k2 (i := k) hkn ⟨hu, hb⟩ HW.out.size HS.out)
      clear hS hkl
      have FZ := Lib.hid (fun (w2 : World) (k2 : Since wr w2) => (HR.out.since k2).no hkn)
      have CE := Lib.hid (fun (w2 : World) (k2 : Since wr w2) => show ∃ u, w2.cell? ⟨w.heap.size, k, none⟩ = some u from (let ⟨A, c, h1, _⟩ := (HR.out.since k2).get (i := k) (by have := HN.out; simp; omega); ⟨_, h1⟩))
      go_wp2_with (go_at_call 101; (with_reducible refine (CL.out).mono ?_); rintro e w2 ⟨A2, m2, c2, rfl, hm2, hS2, k2, hf2⟩; have HP := Lib.hid (PU.out w2 _ k2 hS2 hf2); have K2 := Lib.hid k2; have F2 := FZ.out w2 k2; obtain ⟨u2, C2⟩ := CE.out w2 k2; clear hm2 hS2 hf2 k2)
      go_roundw
      case rel =>
        refine ⟨k + 1, by go_num, by omega, Lib.hid ?_, Lib.hid ?_, Lib.hid ?_⟩
        · simp [World.setCell]; exact Nat.lt_of_lt_of_le HS.out K2.out.size
        · have h := HP.out
          have e : (ds.take k ++ List.replicate (n - k) []).set k y = ds.take (k + 1) ++ List.replicate (n - (k + 1)) [] := by
            rw [T.out, show n - k = (n - (k + 1)) + 1 by omega, List.replicate_succ]
            exact set_mid _ _ _ _ (by rw [List.length_take]; have := HN.out; omega)
          rw [e] at h
          exact h
        · exact (HW.out.trans K2.out).set (Nat.le_refl _) _
      case measure => simp [intOf]; omega
    · obtain rfl : k = n := by omega
      go_wp2
      go_ret
      refine ⟨w.heap.size, k, rfl, rfl, Nat.le_refl _, HS.out, ?_, HW.out⟩
      have h := HR.out
      rwa [Nat.sub_self, List.replicate_zero, List.append_nil, List.take_of_length_le (by have := HN.out; omega)] at h
end
section
open Go.RowKit
set_option linter.unusedVariables false
set_option linter.unusedSimpArgs false
open Go.Proofs.Ytoegbgkgenjplaa.Dig Go.Proofs.Ytoegbgkgenjplaa.Lx Go.Proofs.Ytoegbgkgenjplaa.Tk Go.Proofs.Ytoegbgkgenjplaa.Ti Go.Proofs.Ytoegbgkgenjplaa.Zs Go.Proofs.Ytoegbgkgenjplaa.Tr Go.Proofs.Ytoegbgkgenjplaa.Sn
set_option maxRecDepth 20000 in
set_option maxHeartbeats 2000000 in
theorem fit_any (v vd : Value) (c : Cn) (ds : List (List Rn)) (w : World) (h : ConAt w v c) (hd : Sl 1 QD w vd ds) (hs : SzM ⟨ds, [c], 0, 0⟩) :
    Calls Try.prog 59 #[v, vd] w (fun e w' => e = .returned (.bool (modOk ⟨ds, [c], 0, 0⟩)) ∧ Since w w' ∧ True) := by
  have MR := Lib.hid (fun W v (k : Since w W) (h : ModAt W v ⟨ds, [c], 0, 0⟩) => mright_any v ⟨ds, [c], 0, 0⟩ W h hs)
  obtain ⟨R, hR⟩ : ∃ R, R = modOk ⟨ds, [c], 0, 0⟩ := ⟨_, rfl⟩
  rw [← hR] at MR ⊢
  obtain ⟨vx, vy, rfl, h1, h2⟩ := h
  obtain ⟨ck, cx, ca, cc⟩ := c
  simp only at *
  obtain ⟨X, xc, rfl⟩ := h1.form
  obtain ⟨Y, yc, rfl⟩ := h2.form
  obtain ⟨D, dc, rfl⟩ := hd.form
  generalize hnx : cx.length = nx at *
  generalize hny : ca.length = ny at *
  generalize hnd : ds.length = nd at *
  have ka := since_alloc w (.cells #[.int .i64 ck, .slice X nx xc, .slice Y ny yc, .int .i64 cc] 25)
  have kb := since_alloc (w.alloc (.cells #[.int .i64 ck, .slice X nx xc, .slice Y ny yc, .int .i64 cc] 25)) (.cells #[.int .i64 ck, .slice X nx xc, .slice Y ny yc, .int .i64 cc] 25)
  have CL := con_lit (w.alloc (.cells #[.int .i64 ck, .slice X nx xc, .slice Y ny yc, .int .i64 cc] 25)) ⟨ck, cx, ca, cc⟩ (.slice X nx xc) (.slice Y ny yc) (h1.since stI ka) (h2.since stI ka)
  rw [show (w.alloc (.cells #[.int .i64 ck, .slice X nx xc, .slice Y ny yc, .int .i64 cc] 25)).heap.size = w.heap.size + 1 by simp] at CL
  simp only at CL
  have M := Lib.hid (MR.out ((w.alloc (.cells #[.int .i64 ck, .slice X nx xc, .slice Y ny yc, .int .i64 cc] 25)).alloc (.cells #[.int .i64 ck, .slice X nx xc, .slice Y ny yc, .int .i64 cc] 25)) (.agg #[.slice D nd dc, .slice (some ⟨w.heap.size + 1, 0, none⟩) 1 1, .int .i64 0, .int .i64 0]) (ka.trans kb) ⟨_, _, rfl, hd.since stD (ka.trans kb), CL⟩)
  have K := Lib.hid (ka.trans kb)
  obtain ⟨b0, b1, b2, b3⟩ := bx4 (Bx.fresh w #[.int .i64 ck, .slice X nx xc, .slice Y ny yc, .int .i64 cc] 25)
  clear MR hR h1 h2 hd hs CL ka kb hnx hny hnd
  go_enter Try.func59, Try.ntmps59
  go_wp2_with (go_at_call 52; (with_reducible refine M.out.mono ?_); rintro e w2 ⟨rfl, k2⟩; have K2 := Lib.hid (K.out.trans k2); clear k2)
  go_ret
  exact ⟨rfl, K2.out, trivial⟩
end
end Go.Proofs.Ytoegbgkgenjplaa.Ln
