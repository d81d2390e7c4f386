/- Layer 14 (arith): the landed fit, domainsOf, rangesOf, variables. Layer 12 (linear): the landed notEqual. -/
import Derived.Test.YtalcgjkegohhgaaQc
import Derived.Test.YtalcgjkegohhgaaQbf
import Derived.Laws.ResultCell
set_option linter.unusedVariables false
set_option linter.unusedSimpArgs false
section
namespace Go.Proofs.Ytalcgjkegohhgaa.At
open Go.RowKit
open Go.Proofs.Ytalcgjkegohhgaa.Dig Go.Proofs.Ytalcgjkegohhgaa.Lx Go.Proofs.Ytalcgjkegohhgaa.Tk Go.Proofs.Ytalcgjkegohhgaa.Ti Go.Proofs.Ytalcgjkegohhgaa.Zs Go.Proofs.Ytalcgjkegohhgaa.Tr Go.Proofs.Ytalcgjkegohhgaa.Sn Go.Proofs.Ytalcgjkegohhgaa.Ln
theorem info_am : (Try.prog.info? 143).map (fun i => (i.zero, i.size, i.bytes)) = some (some (.agg #[.slice none 0 0]), 1, 24) := by kernel_rfl
theorem make_am (n : Nat) (hn : n ≤ 1000000) (W : World) : (Instr.makeSlice 107 (.int .i64 (n : Int)) (.int .i64 (n : Int))).run Try.prog W = .ok (.slice (some ⟨W.heap.size, 0, none⟩) n n) (W.alloc (.cells (madeCells #[.slice none 0 0] n) 143)) := by
  obtain ⟨i0, hi, hz0, hz1, hz2⟩ := info_parts info_am
  have h := run_make (P := Try.prog) W 107 143 i0 (.agg #[.slice none 0 0]) Try.underlying107 hi hz0 .i64 .i64 n n (by omega) (by omega) (by rw [hz2]; omega) (by omega)
  rw [hz1] at h
  simpa [Value.cells] using h
theorem made_am (w : World) (n : Nat) : DAm w.heap.size n w (w.alloc (.cells (madeCells #[.slice none 0 0] n) 143)) (List.replicate n []) := by
  have hb := Bx.fresh w (madeCells #[.slice none 0 0] n) 143
  have hc : ∀ i, i < n → (w.alloc (.cells (madeCells #[.slice none 0 0] n) 143)).cell? ⟨w.heap.size, i, none⟩ = some (.slice none 0 0) := fun i hi => by
    have := (World.rowIs_made w (.slice none 0 0) n 143).cell hi
    simpa using this
  have hs : (madeCells #[Value.slice none 0 0] n).size = n := by simp [madeCells]
  have hz : ∀ (i : Nat) (u : Value), (madeCells #[Value.slice none 0 0] n)[i]? = some u → u = Value.slice none 0 0 := fun (i : Nat) (u : Value) hu => by
    have hi : i < n := by rw [← hs]; exact (Array.getElem?_eq_some_iff.1 hu).1
    have h1 := hb.cell i
    rw [hc i hi] at h1
    rw [hu] at h1
    exact (Option.some.inj h1).symm
  refine ⟨by simp, _, hb, hs, fun i d hd => ?_, fun i j u u' hu hu' _ b hb1 => by rw [hz i u hu] at hb1; simp [Value.ownBlock] at hb1⟩
  have hi : i < n := by
    have := (List.getElem?_eq_some_iff.1 hd).1
    simpa using this
  have hd2 : d = [] := by
    rw [List.getElem?_replicate, if_pos hi] at hd
    exact (Option.some.inj hd).symm
  subst hd2
  have h1 := hb.cell i
  rw [hc i hi] at h1
  refine ⟨.slice none 0 0, ?_, Sl.nil _ _ _, fun b hb => by simp [Value.ownBlock] at hb⟩
  have hi2 : i < (madeCells #[Value.slice none 0 0] n).size := by omega
  simpa [hi2] using h1.symm
set_option maxRecDepth 20000 in
set_option maxHeartbeats 2000000 in
theorem domainsOf_any (v : Value) (ds : Ln.Ds) (w : World) (h : Sl 1 QD w v ds) (hl : ds.length ≤ 100000) (hd : ∀ d ∈ ds, d.length ≤ 1100000) :
    Calls Try.prog 96 #[v] w (fun e w' => ∃ g n, e = .returned (.slice (some ⟨g, 0, none⟩) n n) ∧ n = ds.length ∧ w.heap.size ≤ g ∧ g < w'.heap.size ∧ DAm g n w w' ds ∧ Since w w') := by
  obtain ⟨A, c, rfl⟩ := h.form
  obtain ⟨n, hn⟩ : ∃ n, n = ds.length := ⟨_, rfl⟩
  rw [← hn] at h hl ⊢
  have H := Lib.hid h
  have HN := Lib.hid hn
  have HD := Lib.hid hd
  have hmk := make_am n (by omega)
  have MD := Lib.hid (made_am w n)
  clear h hn hd
  go_enter Try.func96, Try.ntmps96
  go_wp2
  go_loopw [10] (fun i wr => ∃ (k : Nat), i = .int .i64 (k : Int) ∧ k ≤ n ∧ Hid (w.heap.size < wr.heap.size) ∧ Hid (DAm w.heap.size n w wr (ds.take k ++ List.replicate (n - k) [])) ∧ Hid (Since w wr)) (fun i _ => n - (intOf i).toNat)
  case atStart => exact ⟨0, rfl, Nat.zero_le _, Lib.hid (by simp), Lib.hid (by simpa using MD.out), Lib.hid (since_alloc _ _)⟩
  case round =>
    obtain ⟨k, rfl, hk, HS, HR, HW⟩ := hrel
    by_cases hkn : k < n
    · have hkl : k < ds.length := by have := HN.out; omega
      obtain ⟨g, o, B, cB, rfl, hS, e0⟩ := elD (H.out.since stD HW.out) hkl
      have T := Lib.hid (List.take_succ_eq_append_getElem hkl)
      have hdl := HD.out _ (List.getElem_mem hkl)
      generalize ds[k] = y at *
      have CL := Lib.hid (rclone_any _ y wr hS (by omega))
      have hfz : wr.frozen? ⟨w.heap.size, k, none⟩ = false := HR.out.no hkn
      generalize y.length = p at *
      have PU := Lib.hid (fun (w2 : World) (u : Value) (k2 : Since wr w2) (hu : Sl 2 QR w2 u y) (hb : ∀ b, u.ownBlock = some b → wr.heap.size ≤ b ∧ b < w2.heap.size ∧ ∀ j, w2.frozen? ⟨b, j, none⟩ = false) => HR.out.put2 k2 (i := k) hkn ⟨hu, hb⟩ HW.out.size HS.out)
      clear hS hkl
      have FZ := Lib.hid (fun (w2 : World) (k2 : Since wr w2) => (HR.out.since k2).no hkn)
      have CE := Lib.hid (fun (w2 : World) (k2 : Since wr w2) => show ∃ u, w2.cell? ⟨w.heap.size, k, none⟩ = some u from (let ⟨A, c, h1, _⟩ := (HR.out.since k2).get (i := k) (by have := HN.out; simp; omega); ⟨_, h1⟩))
      go_wp2_with (go_at_call 69; (with_reducible refine (CL.out).mono ?_); rintro e w2 ⟨A2, m2, c2, rfl, hm2, hS2, k2, hf2⟩; have HP := Lib.hid (PU.out w2 _ k2 hS2 hf2); have K2 := Lib.hid k2; have F2 := FZ.out w2 k2; obtain ⟨u2, C2⟩ := CE.out w2 k2; clear hm2 hS2 hf2 k2)
      go_roundw
      case rel =>
        refine ⟨k + 1, by go_num, by omega, Lib.hid ?_, Lib.hid ?_, Lib.hid ?_⟩
        · simp [World.setCell]; exact Nat.lt_of_lt_of_le HS.out K2.out.size
        · have h := HP.out
          have e : (ds.take k ++ List.replicate (n - k) []).set k y = ds.take (k + 1) ++ List.replicate (n - (k + 1)) [] := by
            rw [T.out, show n - k = (n - (k + 1)) + 1 by omega, List.replicate_succ]
            exact set_mid _ _ _ _ (by rw [List.length_take]; have := HN.out; omega)
          rw [e] at h
          exact h
        · exact (HW.out.trans K2.out).set (Nat.le_refl _) _
      case measure => simp [intOf]; omega
    · obtain rfl : k = n := by omega
      go_wp2
      go_ret
      refine ⟨w.heap.size, k, rfl, rfl, Nat.le_refl _, HS.out, ?_, HW.out⟩
      have h := HR.out
      rwa [Nat.sub_self, List.replicate_zero, List.append_nil, List.take_of_length_le (by have := HN.out; omega)] at h
set_option maxRecDepth 20000 in
set_option maxHeartbeats 2000000 in
theorem afit_any (v vd : Value) (c : Cn) (ds : List (List Rn)) (w : World) (h : ConAt w v c) (hd : Sl 1 QD w vd ds) (hs : SzM ⟨ds, [c], 0, 0⟩) :
    Calls Try.prog 95 #[v, vd] w (fun e w' => e = .returned (.bool (modOk ⟨ds, [c], 0, 0⟩)) ∧ Since w w' ∧ True) := by
  have MR := Lib.hid (fun W v (k : Since w W) (h : ModAt W v ⟨ds, [c], 0, 0⟩) => mright_any v ⟨ds, [c], 0, 0⟩ W h hs)
  obtain ⟨R, hR⟩ : ∃ R, R = modOk ⟨ds, [c], 0, 0⟩ := ⟨_, rfl⟩
  rw [← hR] at MR ⊢
  obtain ⟨vx, vy, rfl, h1, h2⟩ := h
  obtain ⟨ck, cx, ca, cc⟩ := c
  simp only at *
  obtain ⟨X, xc, rfl⟩ := h1.form
  obtain ⟨Y, yc, rfl⟩ := h2.form
  obtain ⟨D, dc, rfl⟩ := hd.form
  generalize hnx : cx.length = nx at *
  generalize hny : ca.length = ny at *
  generalize hnd : ds.length = nd at *
  have ka := since_alloc w (.cells #[.int .i64 ck, .slice X nx xc, .slice Y ny yc, .int .i64 cc] 58)
  have kb := since_alloc (w.alloc (.cells #[.int .i64 ck, .slice X nx xc, .slice Y ny yc, .int .i64 cc] 58)) (.cells #[.int .i64 ck, .slice X nx xc, .slice Y ny yc, .int .i64 cc] 58)
  have CL := con_lit (w.alloc (.cells #[.int .i64 ck, .slice X nx xc, .slice Y ny yc, .int .i64 cc] 58)) ⟨ck, cx, ca, cc⟩ (.slice X nx xc) (.slice Y ny yc) (h1.since stI ka) (h2.since stI ka)
  rw [show (w.alloc (.cells #[.int .i64 ck, .slice X nx xc, .slice Y ny yc, .int .i64 cc] 58)).heap.size = w.heap.size + 1 by simp] at CL
  simp only at CL
  have M := Lib.hid (MR.out ((w.alloc (.cells #[.int .i64 ck, .slice X nx xc, .slice Y ny yc, .int .i64 cc] 58)).alloc (.cells #[.int .i64 ck, .slice X nx xc, .slice Y ny yc, .int .i64 cc] 58)) (.agg #[.slice D nd dc, .slice (some ⟨w.heap.size + 1, 0, none⟩) 1 1, .int .i64 0, .int .i64 0]) (ka.trans kb) ⟨_, _, rfl, hd.since stD (ka.trans kb), CL⟩)
  have K := Lib.hid (ka.trans kb)
  obtain ⟨b0, b1, b2, b3⟩ := bx4 (Bx.fresh w #[.int .i64 ck, .slice X nx xc, .slice Y ny yc, .int .i64 cc] 58)
  clear MR hR h1 h2 hd hs CL ka kb hnx hny hnd
  go_enter Try.func95, Try.ntmps95
  go_wp2_with (go_at_call 83; (with_reducible refine M.out.mono ?_); rintro e w2 ⟨rfl, k2⟩; have K2 := Lib.hid (K.out.trans k2); clear k2)
  go_ret
  exact ⟨rfl, K2.out, trivial⟩
set_option maxRecDepth 20000 in
set_option maxHeartbeats 2000000 in
theorem rangesOf_any {g n : Nat} {w0 w : World} {D : Ln.Ds} (h : DAm g n w0 w D) (hn : n ≤ 1000000) :
    Calls Try.prog 103 #[.slice (some ⟨g, 0, none⟩) n n] w (fun e w' => ∃ g2, e = .returned (.slice (some ⟨g2, 0, none⟩) n n) ∧ w.heap.size ≤ g2 ∧ g2 < w'.heap.size ∧ DAt g2 n w0 w' D ∧ Since w w') := by
  obtain ⟨hl, cs, a1, a2, a3, a9⟩ := h
  have hmk := make_doms n hn
  have hgw := a1.lt
  have A1 := Lib.hid a1
  have A2 := Lib.hid a2
  have B0 := Lib.hid (Bx.fresh w (madeCells #[.slice none 0 0] n) 33)
  have MS := Lib.hid (show (madeCells #[Value.slice none 0 0] n).size = n by simp [madeCells])
  have K0 := Lib.hid (since_alloc w (.cells (madeCells #[.slice none 0 0] n) 33))
  obtain ⟨A0, hA0⟩ : ∃ A0, A0 = madeCells #[Value.slice none 0 0] n := ⟨_, rfl⟩
  rw [← hA0] at hmk B0 MS K0
  have FIN := Lib.hid (fun (wr : World) (cs2 : Array Value) (hb : Bx wr w.heap.size cs2 33) (k : Since w wr) (hs : cs2 = cs) => show DAt w.heap.size n w0 wr D from by
    subst hs
    refine ⟨hl, cs2, hb, a2, fun i d hd => ?_, a9⟩
    obtain ⟨u, b1, b2, b3⟩ := a3 i d hd
    refine ⟨u, b1, ?_, fun b hb => ⟨(b3 b hb).1, Nat.lt_of_lt_of_le (b3 b hb).2.1 k.size, fun j => (World.frozen?_of_block (w := w) (a := ⟨b, j, none⟩) (k.block b (b3 b hb).2.1)).trans ((b3 b hb).2.2 j)⟩⟩
    have c1 : Sl 2 QR w u d := sl_unveil b2
    exact sl_veil (G := but w.heap.size) (c1.since stR k) fun b hb' _ => by
      have := (b3 b hb').2.1
      simp [but]; omega)
  have SF := Lib.hid (fun k (hk : k < cs.size) => show ∃ A m c, cs[k] = .slice A m c from by
    obtain ⟨u, b1, b2, -⟩ := a3 k _ (List.getElem?_eq_getElem (by rw [hl, ← a2]; exact hk))
    rw [Array.getElem?_eq_getElem hk] at b1
    injection b1 with b1
    obtain ⟨A, c, e⟩ := b2.form
    exact ⟨A, _, c, b1.trans e⟩)
  clear hA0 hl a1 a2 a3 a9
  go_enter Try.func103, Try.ntmps103
  go_wp2
  go_loopw [10] (fun i wr => ∃ (k : Nat) (cs2 : Array Value), i = .int .i64 (k : Int) ∧ k ≤ n ∧ Hid (Bx wr w.heap.size cs2 33) ∧ Hid (cs2.size = n ∧ ∀ i, i < k → cs2[i]? = cs[i]?) ∧ Hid (Since w wr)) (fun i _ => n - (intOf i).toNat)
  case atStart => exact ⟨0, A0, rfl, Nat.zero_le _, B0, Lib.hid ⟨MS.out, fun i hi => absurd hi (Nat.not_lt_zero _)⟩, K0⟩
  case round =>
    obtain ⟨k, cs2, rfl, hk, HB, HC, HW⟩ := hrel
    by_cases hkn : k < n
    · have hks : k < cs.size := by rw [A2.out]; exact hkn
      have y0 : wr.cell? ⟨g, k, none⟩ = some cs[k] := ((A1.out.since HW.out).cell k).trans (Array.getElem?_eq_getElem hks)
      have y1 : wr.cell? ⟨w.heap.size, k, none⟩ = some (cs2[k]'(by rw [HC.out.1]; exact hkn)) := (HB.out.cell k).trans (Array.getElem?_eq_getElem _)
      have y2 : wr.frozen? ⟨w.heap.size, k, none⟩ = false := HB.out.no k
      have NB := Lib.hid (bxset HB.out k cs[k] rfl)
      have NC := Lib.hid (show (cs2.setIfInBounds k cs[k]).size = n ∧ ∀ i, i < k + 1 → (cs2.setIfInBounds k cs[k])[i]? = cs[i]? from ⟨by simp [HC.out.1], fun i hi => by
        by_cases e : k = i
        · subst e
          rw [Array.getElem?_setIfInBounds_self_of_lt (by rw [HC.out.1]; exact hkn), Array.getElem?_eq_getElem hks]
        · rw [Array.getElem?_setIfInBounds_ne e]; exact HC.out.2 i (by omega)⟩)
      have NW := Lib.hid ((HW.out).set (p := ⟨w.heap.size, k, none⟩) (Nat.le_refl _) cs[k])
      obtain ⟨SA, sm, sc, hu⟩ := SF.out k hks
      rw [hu] at y0 NB NC NW
      clear hu
      generalize cs2[k]'(by rw [HC.out.1]; exact hkn) = u2 at *
      go_wp2
      go_roundw
      case rel => exact ⟨k + 1, _, by go_num, by omega, NB, NC, NW⟩
      case measure => simp [intOf]; omega
    · obtain rfl : k = n := by omega
      have DD := FIN.out wr cs2 HB.out HW.out (Array.ext_getElem? fun i => by
        by_cases hi : i < k
        · exact HC.out.2 i hi
        · rw [Array.getElem?_eq_none (by rw [HC.out.1]; omega), Array.getElem?_eq_none (by rw [A2.out]; omega)])
      have hlt := HB.out.lt
      go_wp2
      go_ret
      exact ⟨w.heap.size, rfl, Nat.le_refl _, hlt, DD, HW.out⟩
/-- addresses of domains in the block g -/
abbrev QV (g : Nat) (x : Int) (u : List Value) : Prop := u = [.pointer (some ⟨g, x.toNat, none⟩)]
theorem info_pd : (Try.prog.info? 112).map (fun i => (i.zero, i.size, i.bytes)) = some (some (.pointer none), 1, 8) := by kernel_rfl
theorem nV : Kind1 Try.prog 109 112 := kind1 Try.underlying109 info_pd (by decide) rfl
set_option maxRecDepth 20000 in
set_option maxHeartbeats 2000000 in
theorem vars_any (v : Value) (c : Cn) (g n : Nat) (w : World) (h : ConAt w v c) (hx : c.x.all (isV n) = true) (hl : c.x.length ≤ 1000) :
    Calls Try.prog 97 #[v, .slice (some ⟨g, 0, none⟩) n n] w (fun e w' => ∃ A cA, e = .returned (.slice A c.x.length cA) ∧ Sl 1 (fun _ => QV g) w' (.slice A c.x.length cA) c.x ∧ Since w w') := by
  obtain ⟨vx, vy, rfl, h1, h2⟩ := h
  obtain ⟨ck, cx, ca, cc⟩ := c
  simp only at *
  obtain ⟨X, xc, rfl⟩ := h1.form
  obtain ⟨Y, yc, rfl⟩ := h2.form
  generalize ca.length = ny at *
  obtain ⟨m, hm⟩ : ∃ m, m = cx.length := ⟨_, rfl⟩
  rw [← hm] at h1 hl ⊢
  have HM := Lib.hid hm
  have H1 := Lib.hid h1
  have HX := Lib.hid (fun k (hk : k < cx.length) => isV_at hx hk)
  have ka := Lib.hid (since_alloc w (.cells #[.int .i64 ck, .slice X m xc, .slice Y ny yc, .int .i64 cc] 58))
  have BC := Lib.hid (Bx.fresh w #[.int .i64 ck, .slice X m xc, .slice Y ny yc, .int .i64 cc] 58)
  obtain ⟨b0, b1, b2, b3⟩ := bx4 BC.out
  clear h1 h2 hx hm
  go_enter Try.func97, Try.ntmps97
  go_wp2
  clear b0 b1 b2 b3
  go_loopw [5, 11] (fun s i wr => ∃ (k : Nat) (A : Option Addr) (cA : Nat), i = .int .i64 (k : Int) ∧ s = .slice A k cA ∧ k ≤ m ∧ Hid (Rq 112 (QV g) w wr (.slice A k cA) (cx.take k))) (fun _ i _ => m - (intOf i).toNat)
  case atStart => exact ⟨0, none, 0, rfl, rfl, Nat.zero_le _, Lib.hid (Rq.nil _ _ ka.out)⟩
  case round =>
    obtain ⟨k, A, cA, rfl, rfl, hk, HR⟩ := hrel
    by_cases hkn : k < m
    · have hkl : k < cx.length := by have := HM.out; omega
      obtain ⟨gx, ox, rfl, e0⟩ := elI (H1.out.since stI HR.out.s) hkl
      obtain ⟨j, hj, hjn⟩ := HX.out k hkl
      have T := Lib.hid (List.take_succ_eq_append_getElem hkl)
      have TL := Lib.hid (show (cx.take k).length = k by rw [List.length_take]; omega)
      have QJ : QV g cx[k] [.pointer (some ⟨g, j, none⟩)] := by unfold QV; rw [hj]; rfl
      have HQ := Lib.hid QJ
      rw [hj] at e0
      generalize hy : cx[k] = y at T HQ
      clear hj QJ hy
      go_wp2_with (at_builtin; refine wpList_appQ nV (HR.out.since (since_alloc _ _)) (by rw [TL.out]; omega) y (.pointer (some ⟨g, j, none⟩)) HQ.out rfl wr.heap.size 1 ((Bx.fresh wr _ _).cell 0) (by rfl) _ _ rfl (by rfl) (by rfl) ?_; rw [TL.out]; intro A3 c3 w2 h2 q2; have H2 := Lib.hid h2; clear h2 q2)
      go_roundw
      case rel => exact ⟨k + 1, A3, c3, by go_num, rfl, by omega, Lib.hid (by rw [T.out]; exact H2.out)⟩
      case measure => simp [intOf]; omega
    · obtain rfl : k = m := by omega
      have HE := Lib.hid (show cx.take k = cx from List.take_of_length_le (by have := HM.out; omega))
      go_wp2
      go_ret
      refine ⟨A, cA, rfl, ?_, HR.out.s⟩
      have h := HR.out.sl
      rw [HE.out] at h
      exact h
end Go.Proofs.Ytalcgjkegohhgaa.At
end
section
namespace Go.Proofs.Ytalcgjkegohhgaa.Ln
open Go.RowKit
open Go.Proofs.Ytalcgjkegohhgaa.Dig Go.Proofs.Ytalcgjkegohhgaa.Lx Go.Proofs.Ytalcgjkegohhgaa.Tk Go.Proofs.Ytalcgjkegohhgaa.Ti Go.Proofs.Ytalcgjkegohhgaa.Zs Go.Proofs.Ytalcgjkegohhgaa.Tr Go.Proofs.Ytalcgjkegohhgaa.Sn
section
open Go.RowKit
open Go.Proofs.Ytalcgjkegohhgaa.Dig Go.Proofs.Ytalcgjkegohhgaa.Lx Go.Proofs.Ytalcgjkegohhgaa.Tk Go.Proofs.Ytalcgjkegohhgaa.Ti Go.Proofs.Ytalcgjkegohhgaa.Zs Go.Proofs.Ytalcgjkegohhgaa.Tr Go.Proofs.Ytalcgjkegohhgaa.Sn
/-- the call ends in domains of its own and 0, or in none and a number -/
def RetNr (p : Option Ds × Int) (w : World) (e : Ending) (w' : World) : Prop :=
  Since w w' ∧ match p.1 with
  | none => e = .returned (.tuple #[.slice none 0 0, .int .i64 p.2])
  | some E => ∃ g n, e = .returned (.tuple #[.slice (some ⟨g, 0, none⟩) n n, .int .i64 p.2]) ∧ w.heap.size ≤ g ∧ g < w'.heap.size ∧ DAt g n w w' E
theorem DAt.low {g n : Nat} {w0 w1 w : World} {D : Ds} (h : DAt g n w1 w D) (hs : w0.heap.size ≤ w1.heap.size) : DAt g n w0 w D := by
  obtain ⟨hl, cs, h1, h2, h3, h9⟩ := h
  refine ⟨hl, cs, h1, h2, fun i d hd => ?_, h9⟩
  obtain ⟨u, h4, h5, h6⟩ := h3 i d hd
  exact ⟨u, h4, h5, fun b hb => ⟨Nat.le_trans hs (h6 b hb).1, (h6 b hb).2⟩⟩
end
section
open Go.RowKit
open Go.Proofs.Ytalcgjkegohhgaa.Dig Go.Proofs.Ytalcgjkegohhgaa.Lx Go.Proofs.Ytalcgjkegohhgaa.Tk Go.Proofs.Ytalcgjkegohhgaa.Ti Go.Proofs.Ytalcgjkegohhgaa.Zs Go.Proofs.Ytalcgjkegohhgaa.Tr Go.Proofs.Ytalcgjkegohhgaa.Sn
end
section
open Go.RowKit
open Go.Proofs.Ytalcgjkegohhgaa.Dig Go.Proofs.Ytalcgjkegohhgaa.Lx Go.Proofs.Ytalcgjkegohhgaa.Tk Go.Proofs.Ytalcgjkegohhgaa.Ti Go.Proofs.Ytalcgjkegohhgaa.Zs Go.Proofs.Ytalcgjkegohhgaa.Tr Go.Proofs.Ytalcgjkegohhgaa.Sn
def aD : Ds := [[(0, 5)], [(0, 5)]]
def aC : Cn := ⟨1, [0, 1], [1, 1], 9⟩
def aC2 : Cn := ⟨2, [0], [1], -1⟩
theorem aN1 : narO aC aD = (some [[(4, 5)], [(4, 5)]], 0) := by decide +kernel
theorem aN2 : narO aC2 aD = (none, 12) := by decide +kernel
theorem szA {c : Cn} (h : c = aC ∨ c = aC2) : SzM ⟨aD, [c], 0, 0⟩ := by
  refine ⟨fun d hd => ?_, fun c' hc => ?_⟩
  · simp [aD] at hd; subst hd; simp
  · simp at hc; subst hc; rcases h with rfl | rfl <;> simp [aC, aC2, SzC]
theorem ranges_same {v1 v2 : Value} {l : List Rn} {w : World} (h1 : Sl 2 QR w v1 l) (h2 : Sl 2 QR w v2 l) (hl : l.length ≤ 1100000) : Calls Try.prog 31 #[v1, v2] w (RetT true w) := by
  have := ranges_any v1 v2 l l w h1 h2 hl
  rw [decide_eq_true rfl] at this
  exact this
end
end Go.Proofs.Ytalcgjkegohhgaa.Ln
end
