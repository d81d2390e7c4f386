/- Layers 11, 12, 14: the law's Kept, of logic's constraints. -/
import Derived.Test.YtilgmkhcpmegjaaCq
import Derived.Test.YtilgmkhcpmegjaaQbt
import Derived.Test.YtilgmkhcpmegjaaQat
namespace Go.Proofs.Ytilgmkhcpmegjaa.Ev
open Go.RowKit
set_option linter.unusedVariables false
set_option linter.unusedSimpArgs false
open Go.Proofs.Ytilgmkhcpmegjaa.Dig Go.Proofs.Ytilgmkhcpmegjaa.Lx Go.Proofs.Ytilgmkhcpmegjaa.Tk Go.Proofs.Ytilgmkhcpmegjaa.Ti Go.Proofs.Ytilgmkhcpmegjaa.Zs Go.Proofs.Ytilgmkhcpmegjaa.Tr Go.Proofs.Ytilgmkhcpmegjaa.Sn Go.Proofs.Ytilgmkhcpmegjaa.Ln
set_option maxRecDepth 20000 in
set_option maxHeartbeats 3000000 in
theorem kept_noG (v vd : Value) (c : Cn) (ds : Ln.Ds) (w : World) (hC : ConAt w v c) (hD : Sl 1 QD w vd ds) (hl : ds.length ≤ 1000) (hG : Gd ds) (hp : prodF ds ≤ 400) (hs : SzM ⟨ds, [c], 0, 0⟩) (hk6 : c.k = 11 ∨ c.k = 12 ∨ c.k = 13 ∨ c.k = 14) (hno : ∀ a, Wi ds a → holds c a = true → False) :
    Calls Try.prog 22 #[v, vd, .slice none 0 0, .int .i64 12] w (RetT true w) := by
  have HNO := Lib.hid hno
  have HEV := Lib.hid (fun W vc (k : Since w W) (hc : Sl 4 QC W vc [c]) => every_someG vd vc c ds W (hD.since stD k) hc hl hG hp hs hk6)
  obtain ⟨vx, vy, rfl, h1, h2⟩ := hC
  obtain ⟨ck, cx, ca, cc⟩ := c
  simp only at *
  obtain ⟨X, xc, rfl⟩ := h1.form
  obtain ⟨Y, yc, rfl⟩ := h2.form
  obtain ⟨D, dc, rfl⟩ := hD.form
  generalize hnx : cx.length = nx at *
  generalize hny : ca.length = ny at *
  have ka := since_alloc w (.cells #[.int .i64 ck, .slice X nx xc, .slice Y ny yc, .int .i64 cc] 25)
  have kb := since_alloc (w.alloc (.cells #[.int .i64 ck, .slice X nx xc, .slice Y ny yc, .int .i64 cc] 25)) (.cells #[.int .i64 ck, .slice X nx xc, .slice Y ny yc, .int .i64 cc] 25)
  have CL := con_lit (w.alloc (.cells #[.int .i64 ck, .slice X nx xc, .slice Y ny yc, .int .i64 cc] 25)) ⟨ck, cx, ca, cc⟩ (.slice X nx xc) (.slice Y ny yc) (h1.since stI ka) (h2.since stI ka)
  rw [show (w.alloc (.cells #[.int .i64 ck, .slice X nx xc, .slice Y ny yc, .int .i64 cc] 25)).heap.size = w.heap.size + 1 by simp] at CL
  have EV := Lib.hid (HEV.out _ _ (ka.trans kb) CL)
  have K0 := Lib.hid (ka.trans kb)
  obtain ⟨b0, b1, b2, b3⟩ := bx4 (Bx.fresh w #[.int .i64 ck, .slice X nx xc, .slice Y ny yc, .int .i64 cc] 25)
  clear h1 h2 hD hl hG hp hs hk6 hno hnx hny ka kb CL HEV
  go_enter Try.func22, Try.ntmps22
  go_wp2_with (go_at_call 25; (with_reducible refine EV.out.mono ?_); rintro e w2 ⟨A2, m2, c2, LL, rfl, hL, hLm, hLL, hm4, k2⟩; have HLL := Lib.hid hLL; have HL := Lib.hid hL; have HLM := Lib.hid hLm; have K2 := Lib.hid (K0.out.trans k2); clear hL hLm hLL k2; have hm0 : m2 = 0 := (by cases LL with | nil => exact HLM.out.symm | cons x t => exact (HNO.out x (HLL.out x (by simp)).1 (HLL.out x (by simp)).2).elim); subst hm0)
  go_ret
  exact .of (by first | rfl | simp) K2.out
set_option maxRecDepth 20000 in
set_option maxHeartbeats 5000000 in
theorem kept_yesG (v vd vo : Value) (c : Cn) (ds E : Ln.Ds) (w : World) (hC : ConAt w v c) (hD : Sl 1 QD w vd ds) (hl : ds.length ≤ 1000) (hG : Gd ds) (hp : prodF ds ≤ 400) (hs : SzM ⟨ds, [c], 0, 0⟩) (hk6 : c.k = 11 ∨ c.k = 12 ∨ c.k = 13 ∨ c.k = 14) (hO : Sl 1 QD w vo E) (hE : Gd E) (hSub : Sub E ds) (hyes : ∀ a, Wi ds a → holds c a = true → ∀ y : Int, 0 ≤ y → y.toNat < ds.length → mem (domAt E y) (valAt a y)) :
    Calls Try.prog 22 #[v, vd, vo, .int .i64 0] w (RetT true w) := by
  have HYES := Lib.hid hyes
  have HEL := Lib.hid hSub.1
  obtain ⟨O, oc, rfl⟩ := hO.form
  rw [hSub.1] at hO ⊢
  have HO := Lib.hid hO
  have HD0 := Lib.hid hD
  have HG := Lib.hid hG
  have HE := Lib.hid hE
  have HSUB := Lib.hid hSub.2
  have HEV := Lib.hid (fun W vc (k : Since w W) (hc : Sl 4 QC W vc [c]) => every_someG vd vc c ds W (hD.since stD k) hc hl hG hp hs hk6)
  obtain ⟨vx, vy, rfl, h1, h2⟩ := hC
  obtain ⟨ck, cx, ca, cc⟩ := c
  simp only at *
  obtain ⟨X, xc, rfl⟩ := h1.form
  obtain ⟨Y, yc, rfl⟩ := h2.form
  obtain ⟨D, dc, rfl⟩ := hD.form
  generalize hnx : cx.length = nx at *
  generalize hny : ca.length = ny at *
  have ka := since_alloc w (.cells #[.int .i64 ck, .slice X nx xc, .slice Y ny yc, .int .i64 cc] 25)
  have kb := since_alloc (w.alloc (.cells #[.int .i64 ck, .slice X nx xc, .slice Y ny yc, .int .i64 cc] 25)) (.cells #[.int .i64 ck, .slice X nx xc, .slice Y ny yc, .int .i64 cc] 25)
  have CL := con_lit (w.alloc (.cells #[.int .i64 ck, .slice X nx xc, .slice Y ny yc, .int .i64 cc] 25)) ⟨ck, cx, ca, cc⟩ (.slice X nx xc) (.slice Y ny yc) (h1.since stI ka) (h2.since stI ka)
  rw [show (w.alloc (.cells #[.int .i64 ck, .slice X nx xc, .slice Y ny yc, .int .i64 cc] 25)).heap.size = w.heap.size + 1 by simp] at CL
  have EV := Lib.hid (HEV.out _ _ (ka.trans kb) CL)
  have K0 := Lib.hid (ka.trans kb)
  obtain ⟨b0, b1, b2, b3⟩ := bx4 (Bx.fresh w #[.int .i64 ck, .slice X nx xc, .slice Y ny yc, .int .i64 cc] 25)
  obtain ⟨n, hn⟩ : ∃ n, n = List.length ds := ⟨_, rfl⟩
  rw [← hn] at HO HD0 EV hl ⊢
  have HN := Lib.hid hn
  clear h1 h2 hD hG hp hs hk6 hO hE hSub hyes hn hnx hny ka kb CL HEV
  go_enter Try.func22, Try.ntmps22
  go_wp2_with (go_at_call 25; (with_reducible refine EV.out.mono ?_); rintro e w2 ⟨A2, m2, c2, LL, rfl, hL, hLm, hLL, hm4, k2⟩; have HLL := Lib.hid hLL; have HL := Lib.hid hL; have HLM := Lib.hid hLm; have K2 := Lib.hid (K0.out.trans k2); clear hL hLm hLL k2)
  go_loopw [38] (fun i wr => ∃ (x : Nat), i = .int .i64 (x : Int) ∧ x ≤ n ∧ Hid (Since w2 wr)) (fun i _ => n - (intOf i).toNat)
  case atStart => exact ⟨0, rfl, Nat.zero_le _, Lib.hid (Since.refl _)⟩
  case round =>
    obtain ⟨x, rfl, hx, HW⟩ := hrel
    have TW := Lib.hid (K2.out.trans HW.out)
    by_cases hxn : x < n
    · have hxd : x < ds.length := by have := HN.out; omega
      have hxe : x < E.length := by have := HEL.out; omega
      obtain ⟨go, oo, BE, ce, rfl, hSE, eo⟩ := elD (HO.out.since stD TW.out) hxe
      obtain ⟨gd, od, BD, cd, rfl, hSD, ed⟩ := elD (HD0.out.since stD TW.out) hxd
      have gE := HE.out _ (List.getElem_mem hxe)
      have gD := HG.out _ (List.getElem_mem hxd)
      have hsub : ∀ u, mem E[x] u → mem ds[x] u := fun u hu => by
        have := HSUB.out (x : Int) (by omega) u (by rw [domAt_lt (by exact hxe)]; exact hu)
        rwa [domAt_lt (by exact hxd)] at this
      have MT := Lib.hid (fun W (k : Since wr W) => show Calls Try.prog 76 #[.slice BE E[x].length ce, .slice BD ds[x].length cd] W (RetS E[x] W) by
        have := rmeet_any _ _ E[x] ds[x] W (hSE.since stR k) (hSD.since stR k) (right_len gE.1) (right_len gD.1) (okF_bd gE.1 (Int.le_refl _)) (okF_bd gD.1 (Int.le_refl _))
        rw [meet_sub gE.1 gD.1 hsub] at this
        exact this)
      have SM := Lib.hid (fun W (k : Since wr W) A m c (hq : Sl 2 QR W (.slice A m c) E[x]) => show Calls Try.prog 75 #[.slice A m c, .slice BE E[x].length ce] W (RetT true W) by
        have := rsame_any _ _ E[x] E[x] W hq (hSE.since stR k) (right_len gE.1) (right_len gE.1) (okF_bd gE.1 (Int.le_refl _)) (okF_bd gE.1 (Int.le_refl _))
        rw [show same E[x] E[x] = true by rw [same, gE.1, decide_eq_true rfl]; rfl] at this
        exact this)
      have HH := Lib.hid (fun (q : Nat) (hq : q < LL.length) => show has E[x] (valAt LL[q] (x : Int)) = true from has_iff.2 ⟨gE.1, by
        have h0 := HLL.out _ (List.getElem_mem hq)
        have := HYES.out _ h0.1 h0.2 (x : Int) (by omega) (by simpa using hxd)
        rwa [domAt_lt (by exact hxe)] at this⟩)
      have HSX := Lib.hid (fun (y : Int) (hy : has E[x] y = true) W (k : Since wr W) => show Calls Try.prog 26 #[.slice BE E[x].length ce, .int .i64 y] W (RetT true W) by
        have := rhas_any _ E[x] y W (hSE.since stR k) (right_len gE.1) (okF_bd gE.1 (Int.le_refl _))
        rw [hy] at this
        exact this)
      have hpe : 0 < E[x].length := List.length_pos_iff.2 gE.2
      have C0 := Lib.hid (fun W (k : Since wr W) => (k.cell _ (World.block_lt_of_cell? _ _ eo)).trans eo)
      have C1 := Lib.hid (fun W (k : Since wr W) => (k.cell _ (World.block_lt_of_cell? _ _ ed)).trans ed)
      generalize E[x] = ex at *
      generalize ds[x] = dx at *
      obtain ⟨pe, hpe2⟩ : ∃ p, p = ex.length := ⟨_, rfl⟩
      obtain ⟨pd, hpd2⟩ : ∃ p, p = dx.length := ⟨_, rfl⟩
      rw [← hpe2] at MT SM HSX C0 hpe
      rw [← hpd2] at MT C1
      have hz : ¬ pe = 0 := by omega
      have hz2 : ((pe : Int) == 0) = false := beq_eq_false_iff_ne.2 (by omega)
      have HWW := Lib.hid (show Since wr wr from Since.refl _)
      clear hSE hSD gE gD hsub eo ed hxd hxe hpe2 hpd2
      go_wp2
      have hr0 : Since wr wr.drew := Since.drew (Since.refl wr)
      refine wp_region_noPanic ?_
      refine Reg.wp_region_G (S := fun _ => True) (fun j => [].contains j) (by kernel_rfl) trivial ?_
      refine' Reg.tk3 (i := 0) (v := _) (some 41) [2, 3, 8, 13, 14, 15, 16, 17, 18, 19, 20, 21, 22] [] rfl (Or.inl ⟨by rfl, Or.inl ?hy1⟩) ?rest1
      case hy1 => (intro w' kk ss; have x0 := C0.out _ (hr0.trans kk); have x1 := C1.out _ (hr0.trans kk); go_simp; first | done | with_reducible rfl)
      try simp only [Act.put, List.setIfInBounds_toArray, List.set_cons_zero, List.set_cons_succ]
      refine' Reg.tk3 (i := 1) (v := _) (some 42) [2, 3, 8, 13, 14, 15, 16, 17, 18, 19, 20, 21, 22] [] rfl (Or.inl ⟨by rfl, Or.inl ?hy2⟩) ?rest2
      case hy2 => (intro w' kk ss; have x0 := C0.out _ (hr0.trans kk); have x1 := C1.out _ (hr0.trans kk); go_simp; first | done | with_reducible rfl)
      try simp only [Act.put, List.setIfInBounds_toArray, List.set_cons_zero, List.set_cons_succ]
      refine' Reg.tk3 (i := 2) (v := _) (some 43) [3, 8, 13, 14, 15, 16, 17, 18, 19, 20, 21, 22] [] rfl (Or.inl ⟨by rfl, Or.inl ?hy3⟩) ?rest3
      case hy3 => (intro w' kk ss; have x0 := C0.out _ (hr0.trans kk); have x1 := C1.out _ (hr0.trans kk); go_simp; first | done | with_reducible rfl)
      try simp only [Act.put, List.setIfInBounds_toArray, List.set_cons_zero, List.set_cons_succ]
      refine' Reg.tk3 (i := 3) (v := _) (some 44) [8, 13, 14, 15, 16, 17, 18, 19, 20, 21, 22] [] rfl (Or.inl ⟨by rfl, Or.inl ?hy4⟩) ?rest4
      case hy4 => (intro w' kk ss; have x0 := C0.out _ (hr0.trans kk); have x1 := C1.out _ (hr0.trans kk); go_simp; first | done | with_reducible rfl)
      try simp only [Act.put, List.setIfInBounds_toArray, List.set_cons_zero, List.set_cons_succ]
      refine' Reg.tk3 (i := 4) (v := _) (some 45) [6, 7, 8, 13, 14, 15, 16, 17, 18, 19, 20, 21, 22] [] rfl (Or.inl ⟨by rfl, Or.inl ?hy5⟩) ?rest5
      case hy5 => (intro w' kk ss; have x0 := C0.out _ (hr0.trans kk); have x1 := C1.out _ (hr0.trans kk); go_simp; first | done | with_reducible rfl)
      try simp only [Act.put, List.setIfInBounds_toArray, List.set_cons_zero, List.set_cons_succ]
      refine' Reg.tk3 (i := 5) (v := _) (some 46) [6, 7, 8, 13, 14, 15, 16, 17, 18, 19, 20, 21, 22] [] rfl (Or.inl ⟨by rfl, Or.inl ?hy6⟩) ?rest6
      case hy6 => (intro w' kk ss; have x0 := C0.out _ (hr0.trans kk); have x1 := C1.out _ (hr0.trans kk); go_simp; first | done | with_reducible rfl)
      try simp only [Act.put, List.setIfInBounds_toArray, List.set_cons_zero, List.set_cons_succ]
      refine' Reg.tk3 (i := 6) (v := _) (some 47) [7, 8, 13, 14, 15, 16, 17, 18, 19, 20, 21, 22] [] rfl (Or.inl ⟨by rfl, Or.inl ?hy7⟩) ?rest7
      case hy7 => (intro w' kk ss; have x0 := C0.out _ (hr0.trans kk); have x1 := C1.out _ (hr0.trans kk); go_simp; first | done | with_reducible rfl)
      try simp only [Act.put, List.setIfInBounds_toArray, List.set_cons_zero, List.set_cons_succ]
      refine' Reg.tk3 (i := 7) (v := _) (some 48) [8, 13, 14, 15, 16, 17, 18, 19, 20, 21, 22] [] rfl (Or.inl ⟨by rfl, Or.inl ?hy8⟩) ?rest8
      case hy8 => (intro w' kk ss; have x0 := C0.out _ (hr0.trans kk); have x1 := C1.out _ (hr0.trans kk); go_simp; first | done | with_reducible rfl)
      try simp only [Act.put, List.setIfInBounds_toArray, List.set_cons_zero, List.set_cons_succ]
      refine' Reg.tk3 (i := 9) (v := _) (some 50) [11, 12, 13, 14, 15, 16, 17, 18, 19, 20, 21, 22] [] rfl (Or.inl ⟨by rfl, Or.inl ?hy9⟩) ?rest9
      case hy9 => (intro w' kk ss; have x0 := C0.out _ (hr0.trans kk); have x1 := C1.out _ (hr0.trans kk); go_simp; first | done | with_reducible rfl)
      try simp only [Act.put, List.setIfInBounds_toArray, List.set_cons_zero, List.set_cons_succ]
      refine' Reg.tk3 (i := 10) (v := _) (some 51) [11, 12, 13, 14, 15, 16, 17, 18, 19, 20, 21, 22] [] rfl (Or.inl ⟨by rfl, Or.inl ?hy10⟩) ?rest10
      case hy10 => (intro w' kk ss; have x0 := C0.out _ (hr0.trans kk); have x1 := C1.out _ (hr0.trans kk); go_simp; first | done | with_reducible rfl)
      try simp only [Act.put, List.setIfInBounds_toArray, List.set_cons_zero, List.set_cons_succ]
      refine' Reg.tk3 (i := 11) (v := _) (some 52) [12, 13, 14, 15, 16, 17, 18, 19, 20, 21, 22] [] rfl (Or.inl ⟨by rfl, Or.inl ?hy11⟩) ?rest11
      case hy11 => (intro w' kk ss; have x0 := C0.out _ (hr0.trans kk); have x1 := C1.out _ (hr0.trans kk); go_simp; first | done | with_reducible rfl)
      try simp only [Act.put, List.setIfInBounds_toArray, List.set_cons_zero, List.set_cons_succ]
      refine' Reg.tk3 (i := 12) (v := _) (some 53) [13, 14, 15, 16, 17, 18, 19, 20, 21, 22] [] rfl (Or.inl ⟨by rfl, Or.inl ?hy12⟩) ?rest12
      case hy12 => (intro w' kk ss; have x0 := C0.out _ (hr0.trans kk); have x1 := C1.out _ (hr0.trans kk); go_simp; first | done | with_reducible rfl)
      try simp only [Act.put, List.setIfInBounds_toArray, List.set_cons_zero, List.set_cons_succ]
      refine Reg.wpG_ready (rs := [8]) (by kernel_rfl) (by simp) (fun wa1 ka1 sa1 => ?_)
      have hr0 := hr0.trans ka1
      have hgb1 := hr0.size
      refine Reg.AllG.first (o := { dst := some 49, op := Op.call { callee := Callee.value (Operand.func 76), args := #[Operand.tmp 44, Operand.tmp 48], argTypes := #[43, 43] }, type := 43, pos := "law.go:44", after := #[{ on := 3, ground := Ground.data }, { on := 7, ground := Ground.data }], guard := none }) rfl (by rfl) (fun K hK => ?_) Reg.AllG.nil
      go_simp
      (with_reducible refine (MT.out _ hr0).mono ?_)
      rintro e ya1 ⟨A5, m5, c5, rfl, -, q5, hx⟩
      refine hK.out _ _ trivial hx ?_
      clear hK K
      have hr0 := hr0.trans hx
      try simp only [Act.put, List.setIfInBounds_toArray, List.set_cons_zero, List.set_cons_succ]
      refine Reg.wpG_ready (rs := [13]) (by kernel_rfl) (by simp) (fun wa2 ka2 sa2 => ?_)
      have hr0 := hr0.trans ka2
      have hgb2 := hr0.size
      have q5 := q5.since stR ka2
      refine Reg.AllG.first (o := { dst := some 54, op := Op.call { callee := Callee.value (Operand.func 75), args := #[Operand.tmp 49, Operand.tmp 53], argTypes := #[43, 43] }, type := 4, pos := "law.go:44", after := #[{ on := 8, ground := Ground.data }, { on := 12, ground := Ground.data }, { on := 8, ground := Ground.chain }], guard := none }) rfl (by rfl) (fun K hK => ?_) Reg.AllG.nil
      go_simp
      (with_reducible refine (SM.out _ hr0 A5 m5 c5 (q5)).mono ?_)
      rintro e ya2 ⟨rfl, hx⟩
      refine hK.out _ _ trivial hx ?_
      clear hK K
      have hr0 := hr0.trans hx
      have q5 := q5.since stR hx
      try simp only [Act.put, List.setIfInBounds_toArray, List.set_cons_zero, List.set_cons_succ]
      refine' Reg.tk3 (i := 14) (v := _) (some 55) [15, 16, 17, 18, 19, 20, 21, 22] [] rfl (Or.inl ⟨by rfl, Or.inl ?hy13⟩) ?rest13
      case hy13 => (intro w' kk ss; have x0 := C0.out _ (hr0.trans kk); have x1 := C1.out _ (hr0.trans kk); go_simp; first | done | with_reducible rfl)
      try simp only [Act.put, List.setIfInBounds_toArray, List.set_cons_zero, List.set_cons_succ]
      refine' Reg.tk3 (i := 15) (v := _) (some 56) [16, 17, 18, 19, 20, 21, 22] [] rfl (Or.inl ⟨by rfl, Or.inl ?hy14⟩) ?rest14
      case hy14 => (intro w' kk ss; have x0 := C0.out _ (hr0.trans kk); have x1 := C1.out _ (hr0.trans kk); go_simp; first | done | with_reducible rfl)
      try simp only [Act.put, List.setIfInBounds_toArray, List.set_cons_zero, List.set_cons_succ]
      refine' Reg.tk3 (i := 16) (v := _) (some 57) [18, 19, 20, 21, 22] [] rfl (Or.inl ⟨by rfl, Or.inl ?hy15⟩) ?rest15
      case hy15 => (intro w' kk ss; have x0 := C0.out _ (hr0.trans kk); have x1 := C1.out _ (hr0.trans kk); go_simp; first | done | with_reducible rfl)
      try simp only [Act.put, List.setIfInBounds_toArray, List.set_cons_zero, List.set_cons_succ]
      refine' Reg.tk3 (i := 17) (v := _) (some 58) [18, 19, 20, 21, 22] [] rfl (Or.inl ⟨by rfl, Or.inl ?hy16⟩) ?rest16
      case hy16 => (intro w' kk ss; have x0 := C0.out _ (hr0.trans kk); have x1 := C1.out _ (hr0.trans kk); go_simp; first | done | with_reducible rfl)
      try simp only [Act.put, List.setIfInBounds_toArray, List.set_cons_zero, List.set_cons_succ]
      refine' Reg.tk3 (i := 18) (v := _) (some 59) [19, 20, 21, 22] [] rfl (Or.inl ⟨by rfl, Or.inl ?hy17⟩) ?rest17
      case hy17 => (intro w' kk ss; have x0 := C0.out _ (hr0.trans kk); have x1 := C1.out _ (hr0.trans kk); go_simp; first | done | with_reducible rfl)
      try simp only [Act.put, List.setIfInBounds_toArray, List.set_cons_zero, List.set_cons_succ]
      refine' Reg.tk3 (i := 19) (v := _) (some 60) [20, 21, 22] [] rfl (Or.inl ⟨by rfl, Or.inl ?hy18⟩) ?rest18
      case hy18 => (intro w' kk ss; have x0 := C0.out _ (hr0.trans kk); have x1 := C1.out _ (hr0.trans kk); go_simp; first | done | with_reducible rfl)
      try simp only [Act.put, List.setIfInBounds_toArray, List.set_cons_zero, List.set_cons_succ]
      refine' Reg.tk3 (i := 20) (v := _) (some 61) [21, 22] [] rfl (Or.inl ⟨by rfl, Or.inl ?hy19⟩) ?rest19
      case hy19 => (intro w' kk ss; have x0 := C0.out _ (hr0.trans kk); have x1 := C1.out _ (hr0.trans kk); go_simp; first | done | with_reducible rfl)
      try simp only [Act.put, List.setIfInBounds_toArray, List.set_cons_zero, List.set_cons_succ]
      refine' Reg.tk3 (i := 21) (v := _) (some 62) [22] [] rfl (Or.inl ⟨by rfl, Or.inl ?hy20⟩) ?rest20
      case hy20 => (intro w' kk ss; have x0 := C0.out _ (hr0.trans kk); have x1 := C1.out _ (hr0.trans kk); go_simp; first | done | with_reducible rfl)
      try simp only [Act.put, List.setIfInBounds_toArray, List.set_cons_zero, List.set_cons_succ]
      refine' Reg.tk3 (i := 22) (v := _) (some 63) [] [] rfl (Or.inl ⟨by rfl, Or.inl ?hy21⟩) ?rest21
      case hy21 => (intro w' kk ss; have x0 := C0.out _ (hr0.trans kk); have x1 := C1.out _ (hr0.trans kk); go_simp; first | done | with_reducible rfl)
      try simp only [Act.put, List.setIfInBounds_toArray, List.set_cons_zero, List.set_cons_succ]
      refine Reg.wpG_done (by kernel_rfl) (fun wq ke se => ?_) _
      refine NoPanic.normal ?_
      have hr0 := hr0.trans ke
      have q5 := q5.since stR ke
      clear ke
      have HR9 := Lib.hid hr0
      have C0 := Lib.hid (fun W (k : Since wq W) => C0.out W (HR9.out.trans k))
      have HSY := Lib.hid (fun (y : Int) (hy : has ex y = true) W (k : Since wq W) => HSX.out y hy W (HR9.out.trans k))
      have TQ := Lib.hid (HW.out.trans HR9.out)
      clear hr0 MT SM HSX C1
      go_wp2
      go_loopw [66] (fun i wr3 => ∃ (q : Nat), i = .int .i64 (q : Int) ∧ q ≤ m2 ∧ Hid (Since wq wr3)) (fun i _ => m2 - (intOf i).toNat)
      case atStart => exact ⟨0, rfl, Nat.zero_le _, Lib.hid (Since.refl _)⟩
      case round =>
        obtain ⟨q, rfl, hq, HV⟩ := hrel
        by_cases hqm : q < m2
        · have hql : q < LL.length := by have := HLM.out; omega
          obtain ⟨gl, ol, BL, cl, rfl, hSL, el⟩ := elL (HL.out.since stL (TQ.out.trans HV.out)) hql
          have hal : LL[q].length = n := by rw [(HLL.out _ (List.getElem_mem hql)).1.1]; exact HN.out.symm
          have hxl : x < LL[q].length := by omega
          obtain ⟨gv, ov, rfl, ev⟩ := elI hSL hxl
          have HSV := HH.out q hql
          have hva : valAt LL[q] (x : Int) = LL[q][x] := by simp [valAt, hxl]
          rw [hva] at HSV
          rw [hal] at el
          generalize LL[q][x] = y at *
          have HS := Lib.hid (fun W (k : Since wr W) => show Calls Try.prog 26 #[.slice BE pe ce, .int .i64 y] W (fun e w' => e = .returned (.bool true) ∧ Since W w' ∧ True) from (HSY.out y HSV W (HV.out.trans k)).mono fun e w' h => ⟨h.1, h.2, trivial⟩)
          have C0 := Lib.hid (fun W (k : Since wr W) => C0.out W (HV.out.trans k))
          have CB := Lib.hid (fun W (k : Since wr W) => (k.cell _ (World.block_lt_of_cell? _ _ ev)).trans ev)
          clear hSL hal hxl hva HSV ev hql
          go_wp2
          have hr0 : Since wr wr.drew := Since.drew (Since.refl wr)
          refine wp_region_noPanic ?_
          refine Reg.wp_region_G (S := fun _ => True) (fun j => [].contains j) (by kernel_rfl) trivial ?_
          refine' Reg.tk3 (i := 0) (v := _) (some 70) [2, 3, 8, 9] [] rfl (Or.inl ⟨by rfl, Or.inl ?hy22⟩) ?rest22
          case hy22 => (intro w' kk ss; have x0 := C0.out _ (hr0.trans kk); have x1 := CB.out _ (hr0.trans kk); go_simp; first | done | with_reducible rfl)
          try simp only [Act.put, List.setIfInBounds_toArray, List.set_cons_zero, List.set_cons_succ]
          refine' Reg.tk3 (i := 1) (v := _) (some 71) [2, 3, 8, 9] [] rfl (Or.inl ⟨by rfl, Or.inl ?hy23⟩) ?rest23
          case hy23 => (intro w' kk ss; have x0 := C0.out _ (hr0.trans kk); have x1 := CB.out _ (hr0.trans kk); go_simp; first | done | with_reducible rfl)
          try simp only [Act.put, List.setIfInBounds_toArray, List.set_cons_zero, List.set_cons_succ]
          refine' Reg.tk3 (i := 2) (v := _) (some 72) [3, 8, 9] [] rfl (Or.inl ⟨by rfl, Or.inl ?hy24⟩) ?rest24
          case hy24 => (intro w' kk ss; have x0 := C0.out _ (hr0.trans kk); have x1 := CB.out _ (hr0.trans kk); go_simp; first | done | with_reducible rfl)
          try simp only [Act.put, List.setIfInBounds_toArray, List.set_cons_zero, List.set_cons_succ]
          refine' Reg.tk3 (i := 3) (v := _) (some 73) [8, 9] [] rfl (Or.inl ⟨by rfl, Or.inl ?hy25⟩) ?rest25
          case hy25 => (intro w' kk ss; have x0 := C0.out _ (hr0.trans kk); have x1 := CB.out _ (hr0.trans kk); go_simp; first | done | with_reducible rfl)
          try simp only [Act.put, List.setIfInBounds_toArray, List.set_cons_zero, List.set_cons_succ]
          refine' Reg.tk3 (i := 4) (v := _) (some 74) [6, 7, 8, 9] [] rfl (Or.inl ⟨by rfl, Or.inl ?hy26⟩) ?rest26
          case hy26 => (intro w' kk ss; have x0 := C0.out _ (hr0.trans kk); have x1 := CB.out _ (hr0.trans kk); go_simp; first | done | with_reducible rfl)
          try simp only [Act.put, List.setIfInBounds_toArray, List.set_cons_zero, List.set_cons_succ]
          refine' Reg.tk3 (i := 5) (v := _) (some 75) [6, 7, 8, 9] [] rfl (Or.inl ⟨by rfl, Or.inl ?hy27⟩) ?rest27
          case hy27 => (intro w' kk ss; have x0 := C0.out _ (hr0.trans kk); have x1 := CB.out _ (hr0.trans kk); go_simp; first | done | with_reducible rfl)
          try simp only [Act.put, List.setIfInBounds_toArray, List.set_cons_zero, List.set_cons_succ]
          refine' Reg.tk3 (i := 6) (v := _) (some 76) [7, 8, 9] [] rfl (Or.inl ⟨by rfl, Or.inl ?hy28⟩) ?rest28
          case hy28 => (intro w' kk ss; have x0 := C0.out _ (hr0.trans kk); have x1 := CB.out _ (hr0.trans kk); go_simp; first | done | with_reducible rfl)
          try simp only [Act.put, List.setIfInBounds_toArray, List.set_cons_zero, List.set_cons_succ]
          refine' Reg.tk3 (i := 7) (v := _) (some 77) [8, 9] [] rfl (Or.inl ⟨by rfl, Or.inl ?hy29⟩) ?rest29
          case hy29 => (intro w' kk ss; have x0 := C0.out _ (hr0.trans kk); have x1 := CB.out _ (hr0.trans kk); go_simp; first | done | with_reducible rfl)
          try simp only [Act.put, List.setIfInBounds_toArray, List.set_cons_zero, List.set_cons_succ]
          refine Reg.tk3 (i := 8) (v := .bool true) (some 78) [9] [] rfl (Or.inl ⟨by rfl, Or.inr ⟨26, #[.slice BE pe ce, .int .i64 y], fun w' kk ss => ⟨?_, ?_⟩⟩⟩) ?_
          · (try dsimp only at ss); go_simp
          · exact HS.out w' (hr0.trans kk)
          try simp only [Act.put, List.setIfInBounds_toArray, List.set_cons_zero, List.set_cons_succ]
          refine' Reg.tk3 (i := 9) (v := _) (some 79) [] [] rfl (Or.inl ⟨by rfl, Or.inl ?hy30⟩) ?rest30
          case hy30 => (intro w' kk ss; have x0 := C0.out _ (hr0.trans kk); have x1 := CB.out _ (hr0.trans kk); go_simp; first | done | with_reducible rfl)
          try simp only [Act.put, List.setIfInBounds_toArray, List.set_cons_zero, List.set_cons_succ]
          refine Reg.wpG_done (by kernel_rfl) (fun wq ke se => ?_) _
          refine NoPanic.normal ?_
          have hr0 := hr0.trans ke
          clear ke
          have HR14 := Lib.hid hr0
          clear hr0
          go_wp2
          go_roundw
          case rel => exact ⟨q + 1, by go_num, by omega, Lib.hid (HV.out.trans HR14.out)⟩
          case measure => simp [intOf]; omega
        · obtain rfl : q = m2 := by omega
          go_wp2
          go_roundw
          case rel => exact ⟨x + 1, by go_num, by omega, Lib.hid (TQ.out.trans HV.out)⟩
          case measure => simp [intOf]; omega
    · obtain rfl : x = n := by omega
      go_wp2
      go_ret
      exact .of rfl TW.out
end Go.Proofs.Ytilgmkhcpmegjaa.Ev
