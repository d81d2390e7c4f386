/- Layer 13 (reify): the landed fit, copied, flagOf, isOnly, isAlways, isNever, withoutFlag. -/
import Derived.Test.YtoegbgkgenjplaaWa
import Derived.Test.YtoegbgkgenjplaaLk
namespace Go.Proofs.Ytoegbgkgenjplaa.Rf
open Go.RowKit
set_option linter.unusedVariables false
set_option linter.unusedSimpArgs false
open Go.Proofs.Ytoegbgkgenjplaa.Dig Go.Proofs.Ytoegbgkgenjplaa.Lx Go.Proofs.Ytoegbgkgenjplaa.Tk Go.Proofs.Ytoegbgkgenjplaa.Ti Go.Proofs.Ytoegbgkgenjplaa.Zs Go.Proofs.Ytoegbgkgenjplaa.Tr Go.Proofs.Ytoegbgkgenjplaa.Sn Go.Proofs.Ytoegbgkgenjplaa.Ln
theorem _root_.Go.Proofs.Ytoegbgkgenjplaa.Ti.Sl.cap {α : Type} {size : Nat} {Q : World → α → List Value → Prop} {w : World} {A : Option Addr} {n c : Nat} {xs : List α} (h : Sl size Q w (.slice A n c) xs) : n ≤ c := by
  obtain ⟨A', c', e1, e2, e3⟩ := h
  injection e1 with e4 e5 e6
  subst e5 e6; exact e2
theorem sl_take {w : World} {A : Option Addr} {n c m : Nat} {xs : List Int} (h : Sl 1 QI w (.slice A n c) xs) (hm : m ≤ xs.length) : Sl 1 QI w (.slice A m c) (xs.take m) := by
  have hl : (xs.take m).length = m := by rw [List.length_take]; omega
  obtain ⟨A', c', e1, e2, e3⟩ := h
  injection e1 with e4 e5 e6
  subst e4 e6
  refine ⟨A, c, by rw [hl], by rw [hl]; omega, fun hp => ?_⟩
  rw [hl] at hp
  obtain ⟨b, o, e7, e8⟩ := e3 (by omega)
  exact ⟨b, o, e7, fun i x hx => e8 i x (by rw [List.getElem?_take] at hx; split at hx; exact hx; cases hx)⟩
set_option maxRecDepth 20000 in
set_option maxHeartbeats 2000000 in
theorem rcopied_any (v : Value) (ds : Ln.Ds) (w : World) (h : Sl 1 QD w v ds) (hl : ds.length ≤ 100000) (hd : ∀ d ∈ ds, d.length ≤ 1100000) :
    Calls Try.prog 107 #[v] w (fun e w' => ∃ g n, e = .returned (.slice (some ⟨g, 0, none⟩) n n) ∧ n = ds.length ∧ w.heap.size ≤ g ∧ g < w'.heap.size ∧ DAt g n w w' ds ∧ Since w w') := by
  obtain ⟨A, c, rfl⟩ := h.form
  obtain ⟨n, hn⟩ : ∃ n, n = ds.length := ⟨_, rfl⟩
  rw [← hn] at h hl ⊢
  have H := Lib.hid h
  have HN := Lib.hid hn
  have HD := Lib.hid hd
  have hmk := make_doms n (by omega)
  have MD := Lib.hid (made_doms w n)
  clear h hn hd
  go_enter Try.func107, Try.ntmps107
  go_wp2
  go_loopw [11] (fun i wr => ∃ (k : Nat), i = .int .i64 (k : Int) ∧ k ≤ n ∧ Hid (w.heap.size < wr.heap.size) ∧ Hid (DAt w.heap.size n w wr (ds.take k ++ List.replicate (n - k) [])) ∧ Hid (Since w wr)) (fun i _ => n - (intOf i).toNat)
  case atStart => exact ⟨0, rfl, Nat.zero_le _, Lib.hid (by simp), Lib.hid (by simpa using MD.out), Lib.hid (since_alloc _ _)⟩
  case round =>
    obtain ⟨k, rfl, hk, HS, HR, HW⟩ := hrel
    by_cases hkn : k < n
    · have hkl : k < ds.length := by have := HN.out; omega
      obtain ⟨g, o, B, cB, rfl, hS, e0⟩ := elD (H.out.since stD HW.out) hkl
      have T := Lib.hid (List.take_succ_eq_append_getElem hkl)
      have hdl := HD.out _ (List.getElem_mem hkl)
      generalize ds[k] = y at *
      have CL := Lib.hid (rclone_any _ y wr hS (by omega))
      have hfz : wr.frozen? ⟨w.heap.size, k, none⟩ = false := HR.out.no hkn
      generalize y.length = p at *
      have PU := Lib.hid (fun (w2 : World) (u : Value) (k2 : Since wr w2) (hu : Sl 2 QR w2 u y) (hb : ∀ b, u.ownBlock = some b → wr.heap.size ≤ b ∧ b < w2.heap.size ∧ ∀ j, w2.frozen? ⟨b, j, none⟩ = false) => HR.out.put2 k2 (i := k) hkn ⟨hu, hb⟩ HW.out.size HS.out)
      clear hS hkl
      have FZ := Lib.hid (fun (w2 : World) (k2 : Since wr w2) => (HR.out.since k2).no hkn)
      have CE := Lib.hid (fun (w2 : World) (k2 : Since wr w2) => show ∃ u, w2.cell? ⟨w.heap.size, k, none⟩ = some u from (let ⟨A, c, h1, _⟩ := (HR.out.since k2).get (i := k) (by have := HN.out; simp; omega); ⟨_, h1⟩))
      go_wp2_with (go_at_call 101; (with_reducible refine (CL.out).mono ?_); rintro e w2 ⟨A2, m2, c2, rfl, hm2, hS2, k2, hf2⟩; have HP := Lib.hid (PU.out w2 _ k2 hS2 hf2); have K2 := Lib.hid k2; have F2 := FZ.out w2 k2; obtain ⟨u2, C2⟩ := CE.out w2 k2; clear hm2 hS2 hf2 k2)
      go_roundw
      case rel =>
        refine ⟨k + 1, by go_num, by omega, Lib.hid ?_, Lib.hid ?_, Lib.hid ?_⟩
        · simp [World.setCell]; exact Nat.lt_of_lt_of_le HS.out K2.out.size
        · have h := HP.out
          have e : (ds.take k ++ List.replicate (n - k) []).set k y = ds.take (k + 1) ++ List.replicate (n - (k + 1)) [] := by
            rw [T.out, show n - k = (n - (k + 1)) + 1 by omega, List.replicate_succ]
            exact set_mid _ _ _ _ (by rw [List.length_take]; have := HN.out; omega)
          rw [e] at h
          exact h
        · exact (HW.out.trans K2.out).set (Nat.le_refl _) _
      case measure => simp [intOf]; omega
    · obtain rfl : k = n := by omega
      go_wp2
      go_ret
      refine ⟨w.heap.size, k, rfl, rfl, Nat.le_refl _, HS.out, ?_, HW.out⟩
      have h := HR.out
      rwa [Nat.sub_self, List.replicate_zero, List.append_nil, List.take_of_length_le (by have := HN.out; omega)] at h
set_option maxRecDepth 20000 in
set_option maxHeartbeats 2000000 in
theorem rfit1_any (v vd : Value) (c : Cn) (ds : List (List Rn)) (w : World) (h : ConAt w v c) (hd : Sl 1 QD w vd ds) (hs : SzM ⟨ds, [c], 0, 0⟩) :
    Calls Try.prog 68 #[v, vd] w (fun e w' => e = .returned (.bool (modOk ⟨ds, [c], 0, 0⟩)) ∧ Since w w' ∧ True) := by
  have MR := Lib.hid (fun W v (k : Since w W) (h : ModAt W v ⟨ds, [c], 0, 0⟩) => mright_any v ⟨ds, [c], 0, 0⟩ W h hs)
  obtain ⟨R, hR⟩ : ∃ R, R = modOk ⟨ds, [c], 0, 0⟩ := ⟨_, rfl⟩
  rw [← hR] at MR ⊢
  obtain ⟨vx, vy, rfl, h1, h2⟩ := h
  obtain ⟨ck, cx, ca, cc⟩ := c
  simp only at *
  obtain ⟨X, xc, rfl⟩ := h1.form
  obtain ⟨Y, yc, rfl⟩ := h2.form
  obtain ⟨D, dc, rfl⟩ := hd.form
  generalize hnx : cx.length = nx at *
  generalize hny : ca.length = ny at *
  generalize hnd : ds.length = nd at *
  have ka := since_alloc w (.cells #[.int .i64 ck, .slice X nx xc, .slice Y ny yc, .int .i64 cc] 25)
  have kb := since_alloc (w.alloc (.cells #[.int .i64 ck, .slice X nx xc, .slice Y ny yc, .int .i64 cc] 25)) (.cells #[.int .i64 ck, .slice X nx xc, .slice Y ny yc, .int .i64 cc] 25)
  have CL := con_lit (w.alloc (.cells #[.int .i64 ck, .slice X nx xc, .slice Y ny yc, .int .i64 cc] 25)) ⟨ck, cx, ca, cc⟩ (.slice X nx xc) (.slice Y ny yc) (h1.since stI ka) (h2.since stI ka)
  rw [show (w.alloc (.cells #[.int .i64 ck, .slice X nx xc, .slice Y ny yc, .int .i64 cc] 25)).heap.size = w.heap.size + 1 by simp] at CL
  simp only at CL
  have M := Lib.hid (MR.out ((w.alloc (.cells #[.int .i64 ck, .slice X nx xc, .slice Y ny yc, .int .i64 cc] 25)).alloc (.cells #[.int .i64 ck, .slice X nx xc, .slice Y ny yc, .int .i64 cc] 25)) (.agg #[.slice D nd dc, .slice (some ⟨w.heap.size + 1, 0, none⟩) 1 1, .int .i64 0, .int .i64 0]) (ka.trans kb) ⟨_, _, rfl, hd.since stD (ka.trans kb), CL⟩)
  have K := Lib.hid (ka.trans kb)
  obtain ⟨b0, b1, b2, b3⟩ := bx4 (Bx.fresh w #[.int .i64 ck, .slice X nx xc, .slice Y ny yc, .int .i64 cc] 25)
  clear MR hR h1 h2 hd hs CL ka kb hnx hny hnd
  go_enter Try.func68, Try.ntmps68
  go_wp2_with (go_at_call 52; (with_reducible refine M.out.mono ?_); rintro e w2 ⟨rfl, k2⟩; have K2 := Lib.hid (K.out.trans k2); clear k2)
  go_ret
  exact ⟨rfl, K2.out, trivial⟩
set_option maxRecDepth 20000 in
set_option maxHeartbeats 2000000 in
theorem flagOf_any (v : Value) (c : Cn) (w : World) (h : ConAt w v c) (hne : c.x ≠ []) (hl : c.x.length ≤ 1000) :
    Calls Try.prog 69 #[v] w (fun e w' => e = .returned (.int .i64 (fl c.x)) ∧ Since w w' ∧ True) := by
  obtain ⟨vx, vy, rfl, h1, h2⟩ := h
  obtain ⟨ck, cx, ca, cc⟩ := c
  simp only at *
  obtain ⟨X, xc, rfl⟩ := h1.form
  obtain ⟨Y, yc, rfl⟩ := h2.form
  generalize ca.length = ny at *
  have hp : 0 < cx.length := List.length_pos_iff.2 hne
  obtain ⟨n, hn⟩ : ∃ n, cx.length = n + 1 := ⟨cx.length - 1, by omega⟩
  obtain ⟨g, o, rfl, e0⟩ := elI h1 (i := n) (by omega)
  have hf : cx[n]'(by omega) = fl cx := by
    have e : cx.length - 1 = n := by omega
    unfold fl; rw [e]; simp [List.getD, show n < cx.length by omega]
  rw [hf] at e0
  rw [hn] at hl ⊢
  have ka := Lib.hid (since_alloc w (.cells #[.int .i64 ck, .slice (some ⟨g, o, none⟩) (n + 1) xc, .slice Y ny yc, .int .i64 cc] 25))
  obtain ⟨b0, b1, b2, b3⟩ := bx4 (Bx.fresh w #[.int .i64 ck, .slice (some ⟨g, o, none⟩) (n + 1) xc, .slice Y ny yc, .int .i64 cc] 25)
  have e1 := (ka.out.cell _ (World.block_lt_of_cell? _ _ e0)).trans e0
  generalize fl cx = f at *
  have hwm : IntKind.i64.wrap (n : Int) = (n : Int) := by simp [IntKind.wrap, IntKind.bits, IntKind.signed]; omega
  have hmm : (n : Int) < (n : Int) + 1 := by omega
  clear h1 h2 hp hn hf hne e0
  go_enter Try.func69, Try.ntmps69
  go_wp2
  go_ret
  exact ⟨rfl, ka.out, trivial⟩
set_option maxRecDepth 20000 in
set_option maxHeartbeats 2000000 in
theorem isOnly_any {A : Option Addr} {m c : Nat} {d : List Rn} {w : World} (h : Sl 2 QR w (.slice A m c) d) (hr : right d = true) (n : Int) (W : World) (k : Since w W) :
    Calls Try.prog 70 #[.slice A m c, .int .i64 n] W (fun e w' => e = .returned (.bool (decide (d = [(n, n)]))) ∧ Since W w' ∧ True) := by
  have SM := Lib.hid (fun W' (k' : Since W W') v (hv : Sl 2 QR W' v [(n, n)]) => same_any _ v d [(n, n)] W' ((h.since stR k).since stR k') hv (right_len hr) (by simp) (okF_bd hr (Int.le_refl _)))
  obtain ⟨r, hrr⟩ : ∃ r, r = decide (d = [(n, n)]) := ⟨_, rfl⟩
  rw [show same d [(n, n)] = r by rw [hrr, same, hr, Bool.true_and]] at SM
  rw [← hrr]
  have ka := Lib.hid (since_alloc W (.cells #[.int .i64 n, .int .i64 n] 49))
  have HZ := Lib.hid (sl_dom1 (Bx.fresh W #[.int .i64 n, .int .i64 n] 49))
  clear h hr hrr k
  go_enter Try.func70, Try.ntmps70
  go_wp2_with (go_at_call 104; (with_reducible refine (SM.out _ ka.out _ HZ.out).mono ?_); rintro e w2 ⟨rfl, k2⟩; have K2 := Lib.hid k2; clear k2)
  go_ret
  exact ⟨rfl, ka.out.trans K2.out, trivial⟩
set_option maxRecDepth 20000 in
set_option maxHeartbeats 2000000 in
theorem isAlways_any (v : Value) (c : Cn) (l g : Int) (w : World) (h : ConAt w v c) (hk : 4 ≤ c.k ∧ c.k ≤ 6) :
    Calls Try.prog 108 #[v, .agg #[.int .i64 l, .int .i64 g]] w (fun e w' => e = .returned (.bool (alw c.k c.c l g)) ∧ Since w w' ∧ True) := by
  obtain ⟨vx, vy, rfl, h1, h2⟩ := h
  obtain ⟨ck, cx, ca, cc⟩ := c
  simp only at *
  obtain ⟨X, xc, rfl⟩ := h1.form
  obtain ⟨Y, yc, rfl⟩ := h2.form
  generalize cx.length = nx at *
  generalize ca.length = ny at *
  clear h1 h2
  have ka := since_alloc w (.cells #[.int .i64 ck, .slice X nx xc, .slice Y ny yc, .int .i64 cc] 25)
  have kb := since_alloc (w.alloc (.cells #[.int .i64 ck, .slice X nx xc, .slice Y ny yc, .int .i64 cc] 25)) (.cells #[.int .i64 l, .int .i64 g] 49)
  have KK := Lib.hid (ka.trans kb)
  obtain ⟨b0, b1, b2, b3⟩ := bx4 ((Bx.fresh w #[.int .i64 ck, .slice X nx xc, .slice Y ny yc, .int .i64 cc] 25).since kb)
  obtain ⟨f0, f1⟩ := (Bx.fresh (w.alloc (.cells #[.int .i64 ck, .slice X nx xc, .slice Y ny yc, .int .i64 cc] 25)) #[.int .i64 l, .int .i64 g] 49).two
  clear ka kb
  have hk3 : ck = 4 ∨ ck = 5 ∨ ck = 6 := by omega
  clear hk
  rcases hk3 with rfl | rfl | rfl
  · by_cases c1 : l = cc
    · subst c1
      by_cases c2 : g = l
      · subst c2
        go_enter Try.func108, Try.ntmps108
        go_wp2
        go_ret
        first | exact ⟨by simp [alw], KK.out, trivial⟩ | exact KK.out | exact ⟨by first | omega | simp [alw], KK.out⟩ | exact ⟨by first | omega | simp [alw], KK.out, trivial⟩
      · go_enter Try.func108, Try.ntmps108
        go_wp2
        go_ret
        first | exact ⟨by simp [alw, c2], KK.out, trivial⟩ | exact KK.out | exact ⟨by first | omega | simp [alw, c2], KK.out⟩ | exact ⟨by first | omega | simp [alw, c2], KK.out, trivial⟩
    · go_enter Try.func108, Try.ntmps108
      go_wp2
      go_ret
      first | exact ⟨by simp [alw, c1], KK.out, trivial⟩ | exact KK.out | exact ⟨by first | omega | simp [alw, c1], KK.out⟩ | exact ⟨by first | omega | simp [alw, c1], KK.out, trivial⟩
  · by_cases c1 : g ≤ cc
    all_goals
      go_enter Try.func108, Try.ntmps108
      go_wp2
      go_ret
      first | exact ⟨by simp [alw, c1], KK.out, trivial⟩ | exact KK.out | exact ⟨by first | omega | simp [alw, c1], KK.out⟩ | exact ⟨by first | omega | simp [alw, c1], KK.out, trivial⟩
  · go_enter Try.func108, Try.ntmps108
    go_wp2
    go_ret
    first | exact ⟨by simp [alw], KK.out, trivial⟩ | exact KK.out | exact ⟨by first | omega | simp [alw], KK.out⟩ | exact ⟨by first | omega | simp [alw], KK.out, trivial⟩
set_option maxRecDepth 20000 in
set_option maxHeartbeats 2000000 in
theorem isNever_any (v : Value) (c : Cn) (l g : Int) (w : World) (h : ConAt w v c) (hk : 4 ≤ c.k ∧ c.k ≤ 6) :
    Calls Try.prog 109 #[v, .agg #[.int .i64 l, .int .i64 g]] w (fun e w' => e = .returned (.bool (nev c.k c.c l g)) ∧ Since w w' ∧ True) := by
  obtain ⟨vx, vy, rfl, h1, h2⟩ := h
  obtain ⟨ck, cx, ca, cc⟩ := c
  simp only at *
  obtain ⟨X, xc, rfl⟩ := h1.form
  obtain ⟨Y, yc, rfl⟩ := h2.form
  generalize cx.length = nx at *
  generalize ca.length = ny at *
  clear h1 h2
  have ka := since_alloc w (.cells #[.int .i64 ck, .slice X nx xc, .slice Y ny yc, .int .i64 cc] 25)
  have kb := since_alloc (w.alloc (.cells #[.int .i64 ck, .slice X nx xc, .slice Y ny yc, .int .i64 cc] 25)) (.cells #[.int .i64 l, .int .i64 g] 49)
  have KK := Lib.hid (ka.trans kb)
  obtain ⟨b0, b1, b2, b3⟩ := bx4 ((Bx.fresh w #[.int .i64 ck, .slice X nx xc, .slice Y ny yc, .int .i64 cc] 25).since kb)
  obtain ⟨f0, f1⟩ := (Bx.fresh (w.alloc (.cells #[.int .i64 ck, .slice X nx xc, .slice Y ny yc, .int .i64 cc] 25)) #[.int .i64 l, .int .i64 g] 49).two
  clear ka kb
  by_cases c1 : l > cc
  · go_enter Try.func109, Try.ntmps109
    go_wp2
    go_ret
    first | exact ⟨by simp [nev, show cc < l from c1], KK.out, trivial⟩ | exact KK.out | exact ⟨by first | omega | simp [nev, show cc < l from c1], KK.out⟩ | exact ⟨by first | omega | simp [nev, show cc < l from c1], KK.out, trivial⟩
  · by_cases c0 : ck = 4
    · subst c0
      by_cases c2 : g < cc
      all_goals
        go_enter Try.func109, Try.ntmps109
        go_wp2
        go_ret
        first | exact ⟨by simp [nev, show ¬ cc < l by omega, c2], KK.out, trivial⟩ | exact KK.out | exact ⟨by first | omega | simp [nev, show ¬ cc < l by omega, c2], KK.out⟩ | exact ⟨by first | omega | simp [nev, show ¬ cc < l by omega, c2], KK.out, trivial⟩
    · go_enter Try.func109, Try.ntmps109
      go_wp2
      go_ret
      first | exact ⟨by simp [nev, show ¬ cc < l by omega, c0], KK.out, trivial⟩ | exact KK.out | exact ⟨by first | omega | simp [nev, show ¬ cc < l by omega, c0], KK.out⟩ | exact ⟨by first | omega | simp [nev, show ¬ cc < l by omega, c0], KK.out, trivial⟩
set_option maxRecDepth 20000 in
set_option maxHeartbeats 3000000 in
theorem withoutFlag_any (v : Value) (c : Cn) (k : Int) (w : World) (h : ConAt w v c) (hl : c.a.length ≤ c.x.length) :
    Calls Try.prog 105 #[v, .int .i64 k] w (fun e w' => ∃ v', e = .returned v' ∧ ConAt w' v' ⟨k, c.x.take c.a.length, c.a, c.c⟩ ∧ Since w w') := by
  obtain ⟨vx, vy, rfl, h1, h2⟩ := h
  obtain ⟨ck, cx, ca, cc⟩ := c
  simp only at *
  obtain ⟨X, xc, rfl⟩ := h1.form
  obtain ⟨Y, yc, rfl⟩ := h2.form
  have hcap := h1.cap
  have HT := Lib.hid (sl_take h1 hl)
  have H2 := Lib.hid h2
  generalize cx.length = nx at *
  generalize hny : ca.length = ny at *
  have hcap2 : ny ≤ xc := by omega
  have hcap3 : ((ny : Nat) : Int) ≤ (xc : Int) := by omega
  obtain ⟨wz, hwz⟩ : ∃ wz, wz = (w.alloc (.cells #[.int .i64 ck, .slice X nx xc, .slice Y ny yc, .int .i64 cc] 25)).alloc (.cells #[.int .i64 0, .slice none 0 0, .slice none 0 0, .int .i64 0] 25) := ⟨_, rfl⟩
  have ka := since_alloc w (.cells #[.int .i64 ck, .slice X nx xc, .slice Y ny yc, .int .i64 cc] 25)
  have kb := since_alloc (w.alloc (.cells #[.int .i64 ck, .slice X nx xc, .slice Y ny yc, .int .i64 cc] 25)) (.cells #[.int .i64 0, .slice none 0 0, .slice none 0 0, .int .i64 0] 25)
  have KK := Lib.hid (show Since w wz by rw [hwz]; exact ka.trans kb)
  have BC := Lib.hid (show Bx wz w.heap.size #[.int .i64 ck, .slice X nx xc, .slice Y ny yc, .int .i64 cc] 25 by rw [hwz]; exact (Bx.fresh w #[.int .i64 ck, .slice X nx xc, .slice Y ny yc, .int .i64 cc] 25).since kb)
  have BZ := Lib.hid (show Bx wz (w.heap.size + 1) #[.int .i64 0, .slice none 0 0, .slice none 0 0, .int .i64 0] 25 by rw [hwz]; exact (show (w.alloc (.cells #[.int .i64 ck, .slice X nx xc, .slice Y ny yc, .int .i64 cc] 25)).heap.size = w.heap.size + 1 by simp) ▸ Bx.fresh (w.alloc (.cells #[.int .i64 ck, .slice X nx xc, .slice Y ny yc, .int .i64 cc] 25)) #[.int .i64 0, .slice none 0 0, .slice none 0 0, .int .i64 0] 25)
  clear ka kb h1 h2 hcap hny
  go_enter Try.func105, Try.ntmps105
  go_wp2
  rw [← hwz]
  clear hwz
  have hr0 : Since wz wz.drew := Since.drew (Since.refl wz)
  refine wp_region_noPanic ?_
  refine Reg.wp_region_G (S := fun _ => True) (fun j => [12].contains j) (by kernel_rfl) trivial ?_
  refine' Reg.tk (i := 0) (oi := { dst := some 5, op := Op.move (Operand.tmp 1), type := 3, pos := "truth.go:33", after := #[], guard := none }) (v := _) [11, 12] [12] (Or.inl ⟨by rfl, Or.inl ?hy1⟩) ?rest1
  case hy1 => (intro w' kk ss; obtain ⟨x0, x1, x2, x3⟩ := bx4 (BC.out.since (hr0.trans kk)); go_simp; first | done | with_reducible rfl)
  try simp only [Act.put, List.setIfInBounds_toArray, List.set_cons_zero, List.set_cons_succ]
  refine' Reg.tk (i := 1) (oi := { dst := some 6, op := Op.fieldAddr 25 (Operand.tmp 2) 1, type := 0, pos := "truth.go:33", after := #[], guard := none }) (v := _) [2, 6, 11, 12] [12] (Or.inl ⟨by rfl, Or.inl ?hy2⟩) ?rest2
  case hy2 => (intro w' kk ss; obtain ⟨x0, x1, x2, x3⟩ := bx4 (BC.out.since (hr0.trans kk)); go_simp; first | done | with_reducible rfl)
  try simp only [Act.put, List.setIfInBounds_toArray, List.set_cons_zero, List.set_cons_succ]
  refine' Reg.tk (i := 2) (oi := { dst := some 7, op := Op.load 22 (Operand.tmp 6), type := 22, pos := "truth.go:33", after := #[{ on := 1, ground := Ground.data }], guard := none }) (v := _) [6, 11, 12] [12] (Or.inl ⟨by rfl, Or.inl ?hy3⟩) ?rest3
  case hy3 => (intro w' kk ss; obtain ⟨x0, x1, x2, x3⟩ := bx4 (BC.out.since (hr0.trans kk)); go_simp; first | done | with_reducible rfl)
  try simp only [Act.put, List.setIfInBounds_toArray, List.set_cons_zero, List.set_cons_succ]
  refine' Reg.tk (i := 3) (oi := { dst := some 8, op := Op.fieldAddr 25 (Operand.tmp 2) 2, type := 0, pos := "truth.go:33", after := #[], guard := none }) (v := _) [4, 5, 6, 11, 12] [12] (Or.inl ⟨by rfl, Or.inl ?hy4⟩) ?rest4
  case hy4 => (intro w' kk ss; obtain ⟨x0, x1, x2, x3⟩ := bx4 (BC.out.since (hr0.trans kk)); go_simp; first | done | with_reducible rfl)
  try simp only [Act.put, List.setIfInBounds_toArray, List.set_cons_zero, List.set_cons_succ]
  refine' Reg.tk (i := 4) (oi := { dst := some 9, op := Op.load 23 (Operand.tmp 8), type := 23, pos := "truth.go:33", after := #[{ on := 3, ground := Ground.data }], guard := none }) (v := _) [5, 6, 11, 12] [12] (Or.inl ⟨by rfl, Or.inl ?hy5⟩) ?rest5
  case hy5 => (intro w' kk ss; obtain ⟨x0, x1, x2, x3⟩ := bx4 (BC.out.since (hr0.trans kk)); go_simp; first | done | with_reducible rfl)
  try simp only [Act.put, List.setIfInBounds_toArray, List.set_cons_zero, List.set_cons_succ]
  refine' Reg.tk (i := 5) (oi := { dst := some 10, op := Op.call { callee := Callee.builtin Builtin.len, args := #[Operand.tmp 9], argTypes := #[23] }, type := 3, pos := "truth.go:33", after := #[{ on := 4, ground := Ground.data }], guard := none }) (v := _) [6, 11, 12] [12] (Or.inl ⟨by rfl, Or.inl ?hy6⟩) ?rest6
  case hy6 => (intro w' kk ss; obtain ⟨x0, x1, x2, x3⟩ := bx4 (BC.out.since (hr0.trans kk)); go_simp; first | done | with_reducible rfl)
  try simp only [Act.put, List.setIfInBounds_toArray, List.set_cons_zero, List.set_cons_succ]
  refine' Reg.tk (i := 6) (oi := { dst := some 11, op := Op.slice 22 (Operand.tmp 7) none (some (Operand.tmp 10)) none, type := 22, pos := "truth.go:33", after := #[{ on := 2, ground := Ground.data }, { on := 5, ground := Ground.data }], guard := none }) (v := _) [11, 12] [12] (Or.inl ⟨by rfl, Or.inl ?hy7⟩) ?rest7
  case hy7 => (intro w' kk ss; obtain ⟨x0, x1, x2, x3⟩ := bx4 (BC.out.since (hr0.trans kk)); go_simp; first | done | with_reducible rfl)
  try simp only [Act.put, List.setIfInBounds_toArray, List.set_cons_zero, List.set_cons_succ]
  refine' Reg.tk (i := 7) (oi := { dst := some 12, op := Op.fieldAddr 25 (Operand.tmp 2) 2, type := 0, pos := "truth.go:33", after := #[], guard := none }) (v := _) [8, 11, 12] [12] (Or.inl ⟨by rfl, Or.inl ?hy8⟩) ?rest8
  case hy8 => (intro w' kk ss; obtain ⟨x0, x1, x2, x3⟩ := bx4 (BC.out.since (hr0.trans kk)); go_simp; first | done | with_reducible rfl)
  try simp only [Act.put, List.setIfInBounds_toArray, List.set_cons_zero, List.set_cons_succ]
  refine' Reg.tk (i := 8) (oi := { dst := some 13, op := Op.load 23 (Operand.tmp 12), type := 23, pos := "truth.go:33", after := #[{ on := 7, ground := Ground.data }], guard := none }) (v := _) [11, 12] [12] (Or.inl ⟨by rfl, Or.inl ?hy9⟩) ?rest9
  case hy9 => (intro w' kk ss; obtain ⟨x0, x1, x2, x3⟩ := bx4 (BC.out.since (hr0.trans kk)); go_simp; first | done | with_reducible rfl)
  try simp only [Act.put, List.setIfInBounds_toArray, List.set_cons_zero, List.set_cons_succ]
  refine' Reg.tk (i := 9) (oi := { dst := some 14, op := Op.fieldAddr 25 (Operand.tmp 2) 3, type := 0, pos := "truth.go:33", after := #[], guard := none }) (v := _) [10, 11, 12] [12] (Or.inl ⟨by rfl, Or.inl ?hy10⟩) ?rest10
  case hy10 => (intro w' kk ss; obtain ⟨x0, x1, x2, x3⟩ := bx4 (BC.out.since (hr0.trans kk)); go_simp; first | done | with_reducible rfl)
  try simp only [Act.put, List.setIfInBounds_toArray, List.set_cons_zero, List.set_cons_succ]
  refine' Reg.tk (i := 10) (oi := { dst := some 15, op := Op.load 2 (Operand.tmp 14), type := 2, pos := "truth.go:33", after := #[{ on := 9, ground := Ground.data }], guard := none }) (v := _) [11, 12] [12] (Or.inl ⟨by rfl, Or.inl ?hy11⟩) ?rest11
  case hy11 => (intro w' kk ss; obtain ⟨x0, x1, x2, x3⟩ := bx4 (BC.out.since (hr0.trans kk)); go_simp; first | done | with_reducible rfl)
  try simp only [Act.put, List.setIfInBounds_toArray, List.set_cons_zero, List.set_cons_succ]
  refine' Reg.tk (i := 11) (oi := { dst := some 16, op := Op.build 25 #[(0, Operand.tmp 5), (1, Operand.tmp 11), (2, Operand.tmp 13), (3, Operand.tmp 15)], type := 25, pos := "truth.go:33", after := #[{ on := 0, ground := Ground.data }, { on := 6, ground := Ground.data }, { on := 8, ground := Ground.data }, { on := 10, ground := Ground.data }], guard := none }) (v := _) [12] [12] (Or.inl ⟨by rfl, Or.inl ?hy12⟩) ?rest12
  case hy12 => (intro w' kk ss; obtain ⟨x0, x1, x2, x3⟩ := bx4 (BC.out.since (hr0.trans kk)); go_simp; first | done | with_reducible rfl)
  try simp only [Act.put, List.setIfInBounds_toArray, List.set_cons_zero, List.set_cons_succ]
  refine Reg.wpG_ready (rs := [12]) (by kernel_rfl) (by simp) (fun wq kq sq => ?_)
  have hr0 := hr0.trans kq
  refine Reg.AllG.last (o := { dst := none, op := Op.store 25 (Operand.tmp 4) (Operand.tmp 16), type := 0, pos := "truth.go:33", after := #[{ on := 11, ground := Ground.data }, { on := 0, ground := Ground.phase }, { on := 1, ground := Ground.phase }, { on := 2, ground := Ground.phase }, { on := 3, ground := Ground.phase }, { on := 4, ground := Ground.phase }, { on := 5, ground := Ground.phase }, { on := 6, ground := Ground.phase }, { on := 7, ground := Ground.phase }, { on := 8, ground := Ground.phase }, { on := 9, ground := Ground.phase }, { on := 10, ground := Ground.phase }, { on := 11, ground := Ground.phase }], guard := none }) rfl (by rfl) (fun K hK => ?_) Reg.AllG.nil
  obtain ⟨z0, z1, z2, z3⟩ := bx4 (BZ.out.since hr0)
  obtain ⟨y0, y1, y2, y3⟩ := bx4' (BZ.out.since hr0)
  go_simp
  refine hK.out _ _ trivial (fun hHeld => ?_)
  clear hK K
  try simp only [Act.put, List.setIfInBounds_toArray, List.set_cons_zero, List.set_cons_succ]
  refine wpAnyH_done (by kernel_rfl) ?_ _
  refine NoPanic.normal ?_
  go_wp2
  have hb4 := bxset (bxset (bxset (bxset (BZ.out.since hr0) 0 (.int .i64 k) rfl) 1 (.slice X ny xc) rfl) 2 (.slice Y ny yc) rfl) 3 (.int .i64 cc) rfl
  refine bodyPost_ret (results_cell_row (P := Try.prog) rfl _ _ (w.heap.size + 1) 25 _ _ _ rfl hb4 Try.underlying25 rfl (by kernel_rfl)) rfl ?_
  have KZ := KK.out.trans hr0
  have hs := ((((KZ.set (p := ⟨w.heap.size + 1, 0, none⟩) (by simp) (.int .i64 k)).set (p := ⟨w.heap.size + 1, 1, none⟩) (by simp) (.slice X ny xc)).set (p := ⟨w.heap.size + 1, 2, none⟩) (by simp) (.slice Y ny yc)).set (p := ⟨w.heap.size + 1, 3, none⟩) (by simp) (.int .i64 cc))
  exact ⟨_, rfl, ⟨_, _, rfl, HT.out.since stI hs, H2.out.since stI hs⟩, hs⟩
end Go.Proofs.Ytoegbgkgenjplaa.Rf
