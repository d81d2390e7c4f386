/- Layer 14 (arith): the landed factor. -/
import Derived.Test.YtalcgjkegohhgaaQd
namespace Go.Proofs.Ytalcgjkegohhgaa.At
open Go.RowKit
set_option linter.unusedVariables false
set_option linter.unusedSimpArgs false
open Go.Proofs.Ytalcgjkegohhgaa.Num Go.Proofs.Ytalcgjkegohhgaa.Dig Go.Proofs.Ytalcgjkegohhgaa.Lx Go.Proofs.Ytalcgjkegohhgaa.Tk Go.Proofs.Ytalcgjkegohhgaa.Ti Go.Proofs.Ytalcgjkegohhgaa.Zs Go.Proofs.Ytalcgjkegohhgaa.Tr Go.Proofs.Ytalcgjkegohhgaa.Sn Go.Proofs.Ytalcgjkegohhgaa.Ln
set_option maxRecDepth 20000 in
set_option maxHeartbeats 4000000 in
theorem factor_d {g n x y z : Nat} {w0 w : World} {D : Ln.Ds} (h : DM g n w0 w D) (hx : x < n) (hy : y < n) (hz : z < n) :
    Calls Try.prog 149 #[.pointer (some ⟨g, x, none⟩), .pointer (some ⟨g, y, none⟩), .pointer (some ⟨g, z, none⟩)] w (RetS g n w0 w (facS (x : Int) (y : Int) (z : Int) D)) := by
  have LY := Lib.hid (fun W (k : Since w W) => lo_d (h.since k) hy)
  have HY := Lib.hid (fun W (k : Since w W) => hi_d (h.since k) hy)
  have F1 := Lib.hid (fun W (k : Since w W) => four_cei (h.since k) hz hy)
  have F2 := Lib.hid (fun W (k : Since w W) => four_flo (h.since k) hz hy)
  have CU := Lib.hid (fun W (k : Since w W) => cut_d (h.since k) hx (mnP cei (z : Int) (y : Int) D) (mxP flo (z : Int) (y : Int) D))
  have YS := Lib.hid (fun W (k : Since w W) => RetS.yes (h.since k).at_ (Turn.of k (but g)))
  have HF : awy (y : Int) D = true → facS (x : Int) (y : Int) (z : Int) D = cutS (x : Int) (fun _ => mnP cei (z : Int) (y : Int) D) (fun _ => mxP flo (z : Int) (y : Int) D) D := fun e => by unfold facS ifS; rw [if_pos e]; rfl
  have HN : awy (y : Int) D = false → facS (x : Int) (y : Int) (z : Int) D = some D := fun e => by unfold facS ifS; rw [if_neg (by rw [e]; simp)]
  unfold awy at HF HN
  have K := Lib.hid (Since.refl w)
  by_cases c1 : L (y : Int) D ≤ 0
  · by_cases c2 : 0 ≤ H (y : Int) D
    · rw [HN (by simp [c1, c2])]
      clear HF HN F1 F2 CU h hx hy hz
      generalize L (y : Int) D = ly at *
      generalize H (y : Int) D = hy at *
      go_enter Try.func149, Try.ntmps149
      go_wp2_with (first | (go_at_call 150; (with_reducible refine (LY.out _ K.out).mono ?_); rintro e w2 ⟨rfl, k2⟩; have K := Lib.hid (K.out.trans k2); clear k2) | (go_at_call 151; (with_reducible refine (HY.out _ K.out).mono ?_); rintro e w2 ⟨rfl, k2⟩; have K := Lib.hid (K.out.trans k2); clear k2))
      go_ret
      exact YS.out _ K.out
    · rw [HF (by simp [c1, c2])]
      clear HF HN YS h hx hy hz
      generalize cutS (x : Int) (fun _ => mnP cei (z : Int) (y : Int) D) (fun _ => mxP flo (z : Int) (y : Int) D) D = o at *
      unfold mnP mxP at CU
      generalize cei (L (z : Int) D) (L (y : Int) D) = a0 at *
      generalize cei (L (z : Int) D) (H (y : Int) D) = a1 at *
      generalize cei (H (z : Int) D) (L (y : Int) D) = a2 at *
      generalize cei (H (z : Int) D) (H (y : Int) D) = a3 at *
      generalize flo (L (z : Int) D) (L (y : Int) D) = c0 at *
      generalize flo (L (z : Int) D) (H (y : Int) D) = cc1 at *
      generalize flo (H (z : Int) D) (L (y : Int) D) = cc2 at *
      generalize flo (H (z : Int) D) (H (y : Int) D) = c3 at *
      generalize L (y : Int) D = ly at *
      generalize H (y : Int) D = hy at *
      go_enter Try.func149, Try.ntmps149
      go_wp2_with (first | (go_at_call 150; (with_reducible refine (LY.out _ K.out).mono ?_); rintro e w2 ⟨rfl, k2⟩; have K := Lib.hid (K.out.trans k2); clear k2) | (go_at_call 151; (with_reducible refine (HY.out _ K.out).mono ?_); rintro e w2 ⟨rfl, k2⟩; have K := Lib.hid (K.out.trans k2); clear k2) | (go_at_call 142; (with_reducible refine (F1.out _ K.out).mono ?_); rintro e w2 ⟨rfl, k2⟩; have K := Lib.hid (K.out.trans k2); clear k2) | (go_at_call 142; (with_reducible refine (F2.out _ K.out).mono ?_); rintro e w9 ⟨rfl, k2⟩; have K := Lib.hid (K.out.trans k2); clear k2))
      have BA := Lib.hid ((Bx.fresh w9 #[.int .i64 a0, .int .i64 a1, .int .i64 a2, .int .i64 a3] 144).since (since_alloc _ (.cells #[.int .i64 c0, .int .i64 cc1, .int .i64 cc2, .int .i64 c3] 144)))
      have BC := Lib.hid (Bx.fresh (w9.alloc (.cells #[.int .i64 a0, .int .i64 a1, .int .i64 a2, .int .i64 a3] 144)) #[.int .i64 c0, .int .i64 cc1, .int .i64 cc2, .int .i64 c3] 144)
      rw [show (w9.alloc (.cells #[.int .i64 a0, .int .i64 a1, .int .i64 a2, .int .i64 a3] 144)).heap.size = w9.heap.size + 1 by simp] at BC
      have KE := Lib.hid (K.out.trans ((since_alloc w9 (.cells #[.int .i64 a0, .int .i64 a1, .int .i64 a2, .int .i64 a3] 144)).trans (since_alloc _ (.cells #[.int .i64 c0, .int .i64 cc1, .int .i64 cc2, .int .i64 c3] 144))))
      clear K
      generalize (w9.alloc (.cells #[.int .i64 a0, .int .i64 a1, .int .i64 a2, .int .i64 a3] 144)).alloc (.cells #[.int .i64 c0, .int .i64 cc1, .int .i64 cc2, .int .i64 c3] 144) = we at *
      generalize hbA : w9.heap.size = bA at *
      generalize hbC : bA + 1 = bC at *
      have hr0 : Since we we.drew := Since.drew (Since.refl we)
      refine wp_region_noPanic ?_
      refine Reg.wp_region_G (S := fun _ => True) (fun j => [5, 6].contains j) (by kernel_rfl) trivial ?_
      refine' Reg.tk3 (i := 0) (v := _) (some 23) [5, 6] [5, 6] rfl (Or.inl ⟨by rfl, Or.inl ?hy1⟩) ?rest1
      case hy1 => (intro w' kk ss; skip; go_simp; first | done | with_reducible rfl)
      try simp only [Act.put, List.setIfInBounds_toArray, List.set_cons_zero, List.set_cons_succ]
      refine' Reg.tk3 (i := 1) (v := _) (some 24) [2, 4, 5, 6] [5, 6] rfl (Or.inl ⟨by rfl, Or.inl ?hy2⟩) ?rest2
      case hy2 => (intro w' kk ss; skip; go_simp; first | done | with_reducible rfl)
      try simp only [Act.put, List.setIfInBounds_toArray, List.set_cons_zero, List.set_cons_succ]
      refine Reg.tk3 (i := 2) (v := .int .i64 (mn4 a0 a1 a2 a3)) (some 25) [4, 5, 6] [5, 6] rfl (Or.inl ⟨by rfl, Or.inr ⟨145, #[.slice (some ⟨bA, 0, none⟩) 4 4], fun w' kk ss => ⟨?_, ?_⟩⟩⟩) ?_
      · (try dsimp only at ss); go_simp
      · exact min4 (BA.out.since (hr0.trans kk))
      try simp only [Act.put, List.setIfInBounds_toArray, List.set_cons_zero, List.set_cons_succ]
      refine' Reg.tk3 (i := 3) (v := _) (some 26) [4, 5, 6] [5, 6] rfl (Or.inl ⟨by rfl, Or.inl ?hy3⟩) ?rest3
      case hy3 => (intro w' kk ss; skip; go_simp; first | done | with_reducible rfl)
      try simp only [Act.put, List.setIfInBounds_toArray, List.set_cons_zero, List.set_cons_succ]
      refine Reg.tk3 (i := 4) (v := .int .i64 (mx4 c0 cc1 cc2 c3)) (some 27) [5, 6] [5, 6] rfl (Or.inl ⟨by rfl, Or.inr ⟨146, #[.slice (some ⟨bC, 0, none⟩) 4 4], fun w' kk ss => ⟨?_, ?_⟩⟩⟩) ?_
      · (try dsimp only at ss); go_simp
      · exact max4 (BC.out.since (hr0.trans kk))
      try simp only [Act.put, List.setIfInBounds_toArray, List.set_cons_zero, List.set_cons_succ]
      refine Reg.wpG_ready (rs := [5]) (by kernel_rfl) (by simp) (fun wq kq sq => ?_)
      have hr0 := hr0.trans kq
      refine Reg.AllG.last (o := { dst := some 28, op := Op.call { callee := Callee.value (Operand.func 144), args := #[Operand.tmp 23, Operand.tmp 25, Operand.tmp 27], argTypes := #[112, 2, 2] }, type := 4, pos := "kinds.go:28", after := #[{ on := 0, ground := Ground.data }, { on := 2, ground := Ground.data }, { on := 4, ground := Ground.data }, { on := 4, ground := Ground.chain }], guard := none }) rfl (by rfl) (fun K hK => ?_) Reg.AllG.nil
      go_simp
      (with_reducible refine (CU.out wq (KE.out.trans hr0)).mono ?_)
      rintro e yw ⟨rfl, k3, k4⟩
      refine hK.out _ _ trivial (fun hHeld => ?_)
      clear hK K
      try simp only [Act.put, List.setIfInBounds_toArray, List.set_cons_zero, List.set_cons_succ]
      refine' Reg.ah3 (i := 6) (v := _) (some 6) rfl (by kernel_rfl) (by kernel_rfl) (by kernel_rfl) (fun _ _ _ h => h) (Or.inl ⟨by rfl, ?hy4⟩) (by assumption) ?rest4
      case hy4 => (intro w' ss; (try dsimp only at ss); go_simp; first | done | with_reducible rfl)
      try simp only [Act.put, List.setIfInBounds_toArray, List.set_cons_zero, List.set_cons_succ]
      refine wpAnyH_done (by kernel_rfl) ?_ _
      refine NoPanic.normal ?_
      go_wp2
      go_ret
      exact RetS.up ⟨rfl, k3, k4⟩ (KE.out.trans hr0)
  · rw [HF (by simp [c1])]
    clear HF HN YS h hx hy hz
    have c2 : True := trivial
    generalize cutS (x : Int) (fun _ => mnP cei (z : Int) (y : Int) D) (fun _ => mxP flo (z : Int) (y : Int) D) D = o at *
    unfold mnP mxP at CU
    generalize cei (L (z : Int) D) (L (y : Int) D) = a0 at *
    generalize cei (L (z : Int) D) (H (y : Int) D) = a1 at *
    generalize cei (H (z : Int) D) (L (y : Int) D) = a2 at *
    generalize cei (H (z : Int) D) (H (y : Int) D) = a3 at *
    generalize flo (L (z : Int) D) (L (y : Int) D) = c0 at *
    generalize flo (L (z : Int) D) (H (y : Int) D) = cc1 at *
    generalize flo (H (z : Int) D) (L (y : Int) D) = cc2 at *
    generalize flo (H (z : Int) D) (H (y : Int) D) = c3 at *
    generalize L (y : Int) D = ly at *
    generalize H (y : Int) D = hy at *
    go_enter Try.func149, Try.ntmps149
    go_wp2_with (first | (go_at_call 150; (with_reducible refine (LY.out _ K.out).mono ?_); rintro e w2 ⟨rfl, k2⟩; have K := Lib.hid (K.out.trans k2); clear k2) | (go_at_call 151; (with_reducible refine (HY.out _ K.out).mono ?_); rintro e w2 ⟨rfl, k2⟩; have K := Lib.hid (K.out.trans k2); clear k2) | (go_at_call 142; (with_reducible refine (F1.out _ K.out).mono ?_); rintro e w2 ⟨rfl, k2⟩; have K := Lib.hid (K.out.trans k2); clear k2) | (go_at_call 142; (with_reducible refine (F2.out _ K.out).mono ?_); rintro e w9 ⟨rfl, k2⟩; have K := Lib.hid (K.out.trans k2); clear k2))
    have BA := Lib.hid ((Bx.fresh w9 #[.int .i64 a0, .int .i64 a1, .int .i64 a2, .int .i64 a3] 144).since (since_alloc _ (.cells #[.int .i64 c0, .int .i64 cc1, .int .i64 cc2, .int .i64 c3] 144)))
    have BC := Lib.hid (Bx.fresh (w9.alloc (.cells #[.int .i64 a0, .int .i64 a1, .int .i64 a2, .int .i64 a3] 144)) #[.int .i64 c0, .int .i64 cc1, .int .i64 cc2, .int .i64 c3] 144)
    rw [show (w9.alloc (.cells #[.int .i64 a0, .int .i64 a1, .int .i64 a2, .int .i64 a3] 144)).heap.size = w9.heap.size + 1 by simp] at BC
    have KE := Lib.hid (K.out.trans ((since_alloc w9 (.cells #[.int .i64 a0, .int .i64 a1, .int .i64 a2, .int .i64 a3] 144)).trans (since_alloc _ (.cells #[.int .i64 c0, .int .i64 cc1, .int .i64 cc2, .int .i64 c3] 144))))
    clear K
    generalize (w9.alloc (.cells #[.int .i64 a0, .int .i64 a1, .int .i64 a2, .int .i64 a3] 144)).alloc (.cells #[.int .i64 c0, .int .i64 cc1, .int .i64 cc2, .int .i64 c3] 144) = we at *
    generalize hbA : w9.heap.size = bA at *
    generalize hbC : bA + 1 = bC at *
    have hr0 : Since we we.drew := Since.drew (Since.refl we)
    refine wp_region_noPanic ?_
    refine Reg.wp_region_G (S := fun _ => True) (fun j => [5, 6].contains j) (by kernel_rfl) trivial ?_
    refine' Reg.tk3 (i := 0) (v := _) (some 23) [5, 6] [5, 6] rfl (Or.inl ⟨by rfl, Or.inl ?hy5⟩) ?rest5
    case hy5 => (intro w' kk ss; skip; go_simp; first | done | with_reducible rfl)
    try simp only [Act.put, List.setIfInBounds_toArray, List.set_cons_zero, List.set_cons_succ]
    refine' Reg.tk3 (i := 1) (v := _) (some 24) [2, 4, 5, 6] [5, 6] rfl (Or.inl ⟨by rfl, Or.inl ?hy6⟩) ?rest6
    case hy6 => (intro w' kk ss; skip; go_simp; first | done | with_reducible rfl)
    try simp only [Act.put, List.setIfInBounds_toArray, List.set_cons_zero, List.set_cons_succ]
    refine Reg.tk3 (i := 2) (v := .int .i64 (mn4 a0 a1 a2 a3)) (some 25) [4, 5, 6] [5, 6] rfl (Or.inl ⟨by rfl, Or.inr ⟨145, #[.slice (some ⟨bA, 0, none⟩) 4 4], fun w' kk ss => ⟨?_, ?_⟩⟩⟩) ?_
    · (try dsimp only at ss); go_simp
    · exact min4 (BA.out.since (hr0.trans kk))
    try simp only [Act.put, List.setIfInBounds_toArray, List.set_cons_zero, List.set_cons_succ]
    refine' Reg.tk3 (i := 3) (v := _) (some 26) [4, 5, 6] [5, 6] rfl (Or.inl ⟨by rfl, Or.inl ?hy7⟩) ?rest7
    case hy7 => (intro w' kk ss; skip; go_simp; first | done | with_reducible rfl)
    try simp only [Act.put, List.setIfInBounds_toArray, List.set_cons_zero, List.set_cons_succ]
    refine Reg.tk3 (i := 4) (v := .int .i64 (mx4 c0 cc1 cc2 c3)) (some 27) [5, 6] [5, 6] rfl (Or.inl ⟨by rfl, Or.inr ⟨146, #[.slice (some ⟨bC, 0, none⟩) 4 4], fun w' kk ss => ⟨?_, ?_⟩⟩⟩) ?_
    · (try dsimp only at ss); go_simp
    · exact max4 (BC.out.since (hr0.trans kk))
    try simp only [Act.put, List.setIfInBounds_toArray, List.set_cons_zero, List.set_cons_succ]
    refine Reg.wpG_ready (rs := [5]) (by kernel_rfl) (by simp) (fun wq kq sq => ?_)
    have hr0 := hr0.trans kq
    refine Reg.AllG.last (o := { dst := some 28, op := Op.call { callee := Callee.value (Operand.func 144), args := #[Operand.tmp 23, Operand.tmp 25, Operand.tmp 27], argTypes := #[112, 2, 2] }, type := 4, pos := "kinds.go:28", after := #[{ on := 0, ground := Ground.data }, { on := 2, ground := Ground.data }, { on := 4, ground := Ground.data }, { on := 4, ground := Ground.chain }], guard := none }) rfl (by rfl) (fun K hK => ?_) Reg.AllG.nil
    go_simp
    (with_reducible refine (CU.out wq (KE.out.trans hr0)).mono ?_)
    rintro e yw ⟨rfl, k3, k4⟩
    refine hK.out _ _ trivial (fun hHeld => ?_)
    clear hK K
    try simp only [Act.put, List.setIfInBounds_toArray, List.set_cons_zero, List.set_cons_succ]
    refine' Reg.ah3 (i := 6) (v := _) (some 6) rfl (by kernel_rfl) (by kernel_rfl) (by kernel_rfl) (fun _ _ _ h => h) (Or.inl ⟨by rfl, ?hy8⟩) (by assumption) ?rest8
    case hy8 => (intro w' ss; (try dsimp only at ss); go_simp; first | done | with_reducible rfl)
    try simp only [Act.put, List.setIfInBounds_toArray, List.set_cons_zero, List.set_cons_succ]
    refine wpAnyH_done (by kernel_rfl) ?_ _
    refine NoPanic.normal ?_
    go_wp2
    go_ret
    exact RetS.up ⟨rfl, k3, k4⟩ (KE.out.trans hr0)
end Go.Proofs.Ytalcgjkegohhgaa.At
