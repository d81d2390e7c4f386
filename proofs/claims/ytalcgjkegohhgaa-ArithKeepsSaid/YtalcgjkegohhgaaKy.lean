/- Layer 11 (sense): the document's own Holds. -/
import Derived.Test.YtalcgjkegohhgaaKw
namespace Go.Proofs.Ytalcgjkegohhgaa.Sn
open Go.RowKit
set_option linter.unusedVariables false
set_option linter.unusedSimpArgs false
open Go.Proofs.Ytalcgjkegohhgaa.Dig Go.Proofs.Ytalcgjkegohhgaa.Lx Go.Proofs.Ytalcgjkegohhgaa.Tk Go.Proofs.Ytalcgjkegohhgaa.Ti Go.Proofs.Ytalcgjkegohhgaa.Zs Go.Proofs.Ytalcgjkegohhgaa.Tr
set_option maxRecDepth 20000 in
set_option maxHeartbeats 3000000 in
theorem rholds8 (v va : Value) (cx ca : List Int) (cc : Int) (a : List Int) (w : World) (h : ConAt w v ⟨8, cx, ca, cc⟩) (ha : Sl 1 QI w va a) (hx : cx.length ≤ 1100000) (hca : ca.length ≤ 1100000) (hla : a.length ≤ 1100000) (hq : asked ⟨8, cx, ca, cc⟩ a = true) :
    Calls Try.prog 39 #[v, va] w (RetT (holdV 8 (vals cx a) ca cc) w) := by
  obtain ⟨hin, hkv⟩ := asked_parts hq
  simp only at hin hkv
  obtain ⟨p1, p2, p3, p4, p5, p6, p7, p8⟩ := askV_all hkv
  have hp3 : (vals cx a).length = 3 := by have := p2; simp [shp] at this; omega
  have hx3 : cx.length = 3 := by rw [← vals_len cx a]; exact hp3
  have AK := Lib.hid (fun W (k : Since w W) => by have := rasked_any v va _ a W (h.since k) (ha.since stI k) hx hca hla; rw [hq] at this; exact this)
  have VA := Lib.hid (fun W (k : Since w W) => show Calls Try.prog 76 #[v, va] W (fun e w' => ∃ B bc, e = .returned (.slice B 3 bc) ∧ Rb w w' (.slice B 3 bc) (vals cx a) ∧ Since W w') by have := rvalues_at h ha (by simp only; omega) hin W k; simp only [hx3] at this; exact this)
  have LN := Lib.hid (fun W => rlinear_any 8 W)
  generalize vals cx a = vl at *
  obtain ⟨p, q, r, rfl⟩ := len3 hp3
  have hpa := List.all_eq_true.1 p1
  obtain ⟨pl, ph⟩ := (within_iff2 p).1 (hpa p (by simp))
  obtain ⟨ql, qh⟩ := (within_iff2 q).1 (hpa q (by simp))
  obtain ⟨rl, rh⟩ := (within_iff2 r).1 (hpa r (by simp))
  obtain ⟨vx, vy, rfl, h1, h2⟩ := h
  simp only at *
  obtain ⟨X, xc, rfl⟩ := h1.form
  obtain ⟨Y, yc, rfl⟩ := h2.form
  obtain ⟨A, ac, rfl⟩ := ha.form
  generalize cx.length = nx at *
  generalize ca.length = na at *
  generalize a.length = nl at *
  have ka := Lib.hid (since_alloc w (.cells #[.int .i64 8, .slice X nx xc, .slice Y na yc, .int .i64 cc] 58))
  have BC := Lib.hid (Bx.fresh w #[.int .i64 8, .slice X nx xc, .slice Y na yc, .int .i64 cc] 58)
  clear h1 h2 ha hq hkv p1 p2 p3 p4 p5 p6 p7 p8 hin hpa hp3 hx3
  go_enter Try.func39, Try.ntmps39
  go_wp2_with (first | (go_at_call 74; (with_reducible refine (AK.out _ ka.out).mono ?_); rintro e w2 ⟨rfl, k2⟩; have K2 := Lib.hid (ka.out.trans k2); have L2 := Lib.hid k2; clear k2; obtain ⟨b0, b1, b2, b3⟩ := bx4 (BC.out.since L2.out)) | (go_at_call 76; (with_reducible refine (VA.out _ K2.out).mono ?_); rintro e w3 ⟨B, bc, rfl, q1, k3⟩; have K3 := Lib.hid (K2.out.trans k3); have L3 := Lib.hid (L2.out.trans k3); have Q1 := Lib.hid q1.sl; clear q1 k3; obtain ⟨b0, b1, b2, b3⟩ := bx4 (BC.out.since L3.out); obtain ⟨gb, ob, hB, CC⟩ := cells3 Q1.out; subst hB; have CC := Lib.hid CC; obtain ⟨c0, c1, c2⟩ := CC.out _ (Since.refl _)) | (go_at_call 73; (with_reducible refine (LN.out _).mono ?_); rintro e w4 ⟨rfl, rfl⟩))
  have hr0 : Since w4 w4.drew := Since.drew (Since.refl w4)
  refine wp_region_noPanic ?_
  refine Reg.wp_region_G (S := fun _ => True) (fun j => [].contains j) (by kernel_rfl) trivial ?_
  refine' Reg.tk3 (i := 0) (v := _) (some 51) [1, 2, 6, 10, 11] [] rfl (Or.inl ⟨by rfl, Or.inl ?hy38⟩) ?rest38
  case hy38 => (intro w' kk ss; obtain ⟨x0, x1, x2', x3⟩ := bx4 (BC.out.since (L3.out.trans (hr0.trans kk))); obtain ⟨y0, y1, y2⟩ := CC.out _ (hr0.trans kk); go_simp; first | done | with_reducible rfl)
  try simp only [Act.put, List.setIfInBounds_toArray, List.set_cons_zero, List.set_cons_succ]
  refine' Reg.tk3 (i := 1) (v := _) (some 52) [2, 6, 10, 11] [] rfl (Or.inl ⟨by rfl, Or.inl ?hy39⟩) ?rest39
  case hy39 => (intro w' kk ss; obtain ⟨x0, x1, x2', x3⟩ := bx4 (BC.out.since (L3.out.trans (hr0.trans kk))); obtain ⟨y0, y1, y2⟩ := CC.out _ (hr0.trans kk); go_simp; first | done | with_reducible rfl)
  try simp only [Act.put, List.setIfInBounds_toArray, List.set_cons_zero, List.set_cons_succ]
  refine' Reg.tk3 (i := 2) (v := _) (some 53) [6, 10, 11] [] rfl (Or.inl ⟨by rfl, Or.inl ?hy40⟩) ?rest40
  case hy40 => (intro w' kk ss; obtain ⟨x0, x1, x2', x3⟩ := bx4 (BC.out.since (L3.out.trans (hr0.trans kk))); obtain ⟨y0, y1, y2⟩ := CC.out _ (hr0.trans kk); go_simp; first | done | with_reducible rfl)
  try simp only [Act.put, List.setIfInBounds_toArray, List.set_cons_zero, List.set_cons_succ]
  refine' Reg.tk3 (i := 3) (v := _) (some 54) [4, 5, 6, 10, 11] [] rfl (Or.inl ⟨by rfl, Or.inl ?hy41⟩) ?rest41
  case hy41 => (intro w' kk ss; obtain ⟨x0, x1, x2', x3⟩ := bx4 (BC.out.since (L3.out.trans (hr0.trans kk))); obtain ⟨y0, y1, y2⟩ := CC.out _ (hr0.trans kk); go_simp; first | done | with_reducible rfl)
  try simp only [Act.put, List.setIfInBounds_toArray, List.set_cons_zero, List.set_cons_succ]
  refine' Reg.tk3 (i := 4) (v := _) (some 55) [5, 6, 10, 11] [] rfl (Or.inl ⟨by rfl, Or.inl ?hy42⟩) ?rest42
  case hy42 => (intro w' kk ss; obtain ⟨x0, x1, x2', x3⟩ := bx4 (BC.out.since (L3.out.trans (hr0.trans kk))); obtain ⟨y0, y1, y2⟩ := CC.out _ (hr0.trans kk); go_simp; first | done | with_reducible rfl)
  try simp only [Act.put, List.setIfInBounds_toArray, List.set_cons_zero, List.set_cons_succ]
  refine' Reg.tk3 (i := 5) (v := _) (some 56) [6, 10, 11] [] rfl (Or.inl ⟨by rfl, Or.inl ?hy43⟩) ?rest43
  case hy43 => (intro w' kk ss; obtain ⟨x0, x1, x2', x3⟩ := bx4 (BC.out.since (L3.out.trans (hr0.trans kk))); obtain ⟨y0, y1, y2⟩ := CC.out _ (hr0.trans kk); go_simp; first | done | with_reducible rfl)
  try simp only [Act.put, List.setIfInBounds_toArray, List.set_cons_zero, List.set_cons_succ]
  refine' Reg.tk3 (i := 6) (v := _) (some 57) [10, 11] [] rfl (Or.inl ⟨by rfl, Or.inl ?hy44⟩) ?rest44
  case hy44 => (intro w' kk ss; obtain ⟨x0, x1, x2', x3⟩ := bx4 (BC.out.since (L3.out.trans (hr0.trans kk))); obtain ⟨y0, y1, y2⟩ := CC.out _ (hr0.trans kk); go_simp; first | done | with_reducible rfl)
  try simp only [Act.put, List.setIfInBounds_toArray, List.set_cons_zero, List.set_cons_succ]
  refine' Reg.tk3 (i := 7) (v := _) (some 58) [8, 9, 10, 11] [] rfl (Or.inl ⟨by rfl, Or.inl ?hy45⟩) ?rest45
  case hy45 => (intro w' kk ss; obtain ⟨x0, x1, x2', x3⟩ := bx4 (BC.out.since (L3.out.trans (hr0.trans kk))); obtain ⟨y0, y1, y2⟩ := CC.out _ (hr0.trans kk); go_simp; first | done | with_reducible rfl)
  try simp only [Act.put, List.setIfInBounds_toArray, List.set_cons_zero, List.set_cons_succ]
  refine' Reg.tk3 (i := 8) (v := _) (some 59) [9, 10, 11] [] rfl (Or.inl ⟨by rfl, Or.inl ?hy46⟩) ?rest46
  case hy46 => (intro w' kk ss; obtain ⟨x0, x1, x2', x3⟩ := bx4 (BC.out.since (L3.out.trans (hr0.trans kk))); obtain ⟨y0, y1, y2⟩ := CC.out _ (hr0.trans kk); go_simp; first | done | with_reducible rfl)
  try simp only [Act.put, List.setIfInBounds_toArray, List.set_cons_zero, List.set_cons_succ]
  refine' Reg.tk3 (i := 9) (v := _) (some 60) [10, 11] [] rfl (Or.inl ⟨by rfl, Or.inl ?hy47⟩) ?rest47
  case hy47 => (intro w' kk ss; obtain ⟨x0, x1, x2', x3⟩ := bx4 (BC.out.since (L3.out.trans (hr0.trans kk))); obtain ⟨y0, y1, y2⟩ := CC.out _ (hr0.trans kk); go_simp; first | done | with_reducible rfl)
  try simp only [Act.put, List.setIfInBounds_toArray, List.set_cons_zero, List.set_cons_succ]
  refine' Reg.tk3 (i := 10) (v := _) (some 61) [11] [] rfl (Or.inl ⟨by rfl, Or.inl ?hy48⟩) ?rest48
  case hy48 => (intro w' kk ss; obtain ⟨x0, x1, x2', x3⟩ := bx4 (BC.out.since (L3.out.trans (hr0.trans kk))); obtain ⟨y0, y1, y2⟩ := CC.out _ (hr0.trans kk); go_simp; first | done | with_reducible rfl)
  try simp only [Act.put, List.setIfInBounds_toArray, List.set_cons_zero, List.set_cons_succ]
  refine' Reg.tk3 (i := 11) (v := _) (some 4) [] [] rfl (Or.inl ⟨by rfl, Or.inl ?hy49⟩) ?rest49
  case hy49 => (intro w' kk ss; obtain ⟨x0, x1, x2', x3⟩ := bx4 (BC.out.since (L3.out.trans (hr0.trans kk))); obtain ⟨y0, y1, y2⟩ := CC.out _ (hr0.trans kk); go_simp; first | done | with_reducible rfl)
  try simp only [Act.put, List.setIfInBounds_toArray, List.set_cons_zero, List.set_cons_succ]
  refine Reg.wpG_done (by kernel_rfl) (fun we ke se => ?_) _
  refine NoPanic.normal ?_
  have hr0 := hr0.trans ke
  clear ke
  go_wp2
  all_goals
    go_ret
    refine RetT.of ?_ (K3.out.trans hr0)
    first | rfl | (simp [holdV, flg, lastV]; done) | (rw [Bool.eq_iff_iff]; simp [holdV]; omega)
set_option maxRecDepth 20000 in
set_option maxHeartbeats 3000000 in
theorem rholds9 (v va : Value) (cx ca : List Int) (cc : Int) (a : List Int) (w : World) (h : ConAt w v ⟨9, cx, ca, cc⟩) (ha : Sl 1 QI w va a) (hx : cx.length ≤ 1100000) (hca : ca.length ≤ 1100000) (hla : a.length ≤ 1100000) (hq : asked ⟨9, cx, ca, cc⟩ a = true) :
    Calls Try.prog 39 #[v, va] w (RetT (holdV 9 (vals cx a) ca cc) w) := by
  obtain ⟨hin, hkv⟩ := asked_parts hq
  simp only at hin hkv
  obtain ⟨p1, p2, p3, p4, p5, p6, p7, p8⟩ := askV_all hkv
  have hp3 : (vals cx a).length = 3 := by have := p2; simp [shp] at this; omega
  have hx3 : cx.length = 3 := by rw [← vals_len cx a]; exact hp3
  have AK := Lib.hid (fun W (k : Since w W) => by have := rasked_any v va _ a W (h.since k) (ha.since stI k) hx hca hla; rw [hq] at this; exact this)
  have VA := Lib.hid (fun W (k : Since w W) => show Calls Try.prog 76 #[v, va] W (fun e w' => ∃ B bc, e = .returned (.slice B 3 bc) ∧ Rb w w' (.slice B 3 bc) (vals cx a) ∧ Since W w') by have := rvalues_at h ha (by simp only; omega) hin W k; simp only [hx3] at this; exact this)
  have LN := Lib.hid (fun W => rlinear_any 9 W)
  generalize vals cx a = vl at *
  obtain ⟨p, q, r, rfl⟩ := len3 hp3
  have hpa := List.all_eq_true.1 p1
  obtain ⟨pl, ph⟩ := (within_iff2 p).1 (hpa p (by simp))
  obtain ⟨ql, qh⟩ := (within_iff2 q).1 (hpa q (by simp))
  obtain ⟨rl, rh⟩ := (within_iff2 r).1 (hpa r (by simp))
  obtain ⟨vx, vy, rfl, h1, h2⟩ := h
  simp only at *
  obtain ⟨X, xc, rfl⟩ := h1.form
  obtain ⟨Y, yc, rfl⟩ := h2.form
  obtain ⟨A, ac, rfl⟩ := ha.form
  generalize cx.length = nx at *
  generalize ca.length = na at *
  generalize a.length = nl at *
  have ka := Lib.hid (since_alloc w (.cells #[.int .i64 9, .slice X nx xc, .slice Y na yc, .int .i64 cc] 58))
  have BC := Lib.hid (Bx.fresh w #[.int .i64 9, .slice X nx xc, .slice Y na yc, .int .i64 cc] 58)
  clear h1 h2 ha hq hkv p1 p2 p3 p4 p5 p6 p7 p8 hin hpa hp3 hx3
  go_enter Try.func39, Try.ntmps39
  go_wp2_with (first | (go_at_call 74; (with_reducible refine (AK.out _ ka.out).mono ?_); rintro e w2 ⟨rfl, k2⟩; have K2 := Lib.hid (ka.out.trans k2); have L2 := Lib.hid k2; clear k2; obtain ⟨b0, b1, b2, b3⟩ := bx4 (BC.out.since L2.out)) | (go_at_call 76; (with_reducible refine (VA.out _ K2.out).mono ?_); rintro e w3 ⟨B, bc, rfl, q1, k3⟩; have K3 := Lib.hid (K2.out.trans k3); have L3 := Lib.hid (L2.out.trans k3); have Q1 := Lib.hid q1.sl; clear q1 k3; obtain ⟨b0, b1, b2, b3⟩ := bx4 (BC.out.since L3.out); obtain ⟨gb, ob, hB, CC⟩ := cells3 Q1.out; subst hB; have CC := Lib.hid CC; obtain ⟨c0, c1, c2⟩ := CC.out _ (Since.refl _)) | (go_at_call 73; (with_reducible refine (LN.out _).mono ?_); rintro e w4 ⟨rfl, rfl⟩))
  have hr0 : Since w4 w4.drew := Since.drew (Since.refl w4)
  refine wp_region_noPanic ?_
  refine Reg.wp_region_G (S := fun _ => True) (fun j => [].contains j) (by kernel_rfl) trivial ?_
  refine' Reg.tk3 (i := 0) (v := _) (some 64) [1, 2, 6, 10, 11] [] rfl (Or.inl ⟨by rfl, Or.inl ?hy51⟩) ?rest51
  case hy51 => (intro w' kk ss; obtain ⟨x0, x1, x2', x3⟩ := bx4 (BC.out.since (L3.out.trans (hr0.trans kk))); obtain ⟨y0, y1, y2⟩ := CC.out _ (hr0.trans kk); go_simp; first | done | with_reducible rfl)
  try simp only [Act.put, List.setIfInBounds_toArray, List.set_cons_zero, List.set_cons_succ]
  refine' Reg.tk3 (i := 1) (v := _) (some 65) [2, 6, 10, 11] [] rfl (Or.inl ⟨by rfl, Or.inl ?hy52⟩) ?rest52
  case hy52 => (intro w' kk ss; obtain ⟨x0, x1, x2', x3⟩ := bx4 (BC.out.since (L3.out.trans (hr0.trans kk))); obtain ⟨y0, y1, y2⟩ := CC.out _ (hr0.trans kk); go_simp; first | done | with_reducible rfl)
  try simp only [Act.put, List.setIfInBounds_toArray, List.set_cons_zero, List.set_cons_succ]
  refine' Reg.tk3 (i := 2) (v := _) (some 66) [6, 10, 11] [] rfl (Or.inl ⟨by rfl, Or.inl ?hy53⟩) ?rest53
  case hy53 => (intro w' kk ss; obtain ⟨x0, x1, x2', x3⟩ := bx4 (BC.out.since (L3.out.trans (hr0.trans kk))); obtain ⟨y0, y1, y2⟩ := CC.out _ (hr0.trans kk); go_simp; first | done | with_reducible rfl)
  try simp only [Act.put, List.setIfInBounds_toArray, List.set_cons_zero, List.set_cons_succ]
  refine' Reg.tk3 (i := 3) (v := _) (some 67) [4, 5, 6, 10, 11] [] rfl (Or.inl ⟨by rfl, Or.inl ?hy54⟩) ?rest54
  case hy54 => (intro w' kk ss; obtain ⟨x0, x1, x2', x3⟩ := bx4 (BC.out.since (L3.out.trans (hr0.trans kk))); obtain ⟨y0, y1, y2⟩ := CC.out _ (hr0.trans kk); go_simp; first | done | with_reducible rfl)
  try simp only [Act.put, List.setIfInBounds_toArray, List.set_cons_zero, List.set_cons_succ]
  refine' Reg.tk3 (i := 4) (v := _) (some 68) [5, 6, 10, 11] [] rfl (Or.inl ⟨by rfl, Or.inl ?hy55⟩) ?rest55
  case hy55 => (intro w' kk ss; obtain ⟨x0, x1, x2', x3⟩ := bx4 (BC.out.since (L3.out.trans (hr0.trans kk))); obtain ⟨y0, y1, y2⟩ := CC.out _ (hr0.trans kk); go_simp; first | done | with_reducible rfl)
  try simp only [Act.put, List.setIfInBounds_toArray, List.set_cons_zero, List.set_cons_succ]
  refine' Reg.tk3 (i := 5) (v := _) (some 69) [6, 10, 11] [] rfl (Or.inl ⟨by rfl, Or.inl ?hy56⟩) ?rest56
  case hy56 => (intro w' kk ss; obtain ⟨x0, x1, x2', x3⟩ := bx4 (BC.out.since (L3.out.trans (hr0.trans kk))); obtain ⟨y0, y1, y2⟩ := CC.out _ (hr0.trans kk); go_simp; first | done | with_reducible rfl)
  try simp only [Act.put, List.setIfInBounds_toArray, List.set_cons_zero, List.set_cons_succ]
  refine' Reg.tk3 (i := 6) (v := _) (some 70) [10, 11] [] rfl (Or.inl ⟨by rfl, Or.inl ?hy57⟩) ?rest57
  case hy57 => (intro w' kk ss; obtain ⟨x0, x1, x2', x3⟩ := bx4 (BC.out.since (L3.out.trans (hr0.trans kk))); obtain ⟨y0, y1, y2⟩ := CC.out _ (hr0.trans kk); go_simp; first | done | with_reducible rfl)
  try simp only [Act.put, List.setIfInBounds_toArray, List.set_cons_zero, List.set_cons_succ]
  refine' Reg.tk3 (i := 7) (v := _) (some 71) [8, 9, 10, 11] [] rfl (Or.inl ⟨by rfl, Or.inl ?hy58⟩) ?rest58
  case hy58 => (intro w' kk ss; obtain ⟨x0, x1, x2', x3⟩ := bx4 (BC.out.since (L3.out.trans (hr0.trans kk))); obtain ⟨y0, y1, y2⟩ := CC.out _ (hr0.trans kk); go_simp; first | done | with_reducible rfl)
  try simp only [Act.put, List.setIfInBounds_toArray, List.set_cons_zero, List.set_cons_succ]
  refine' Reg.tk3 (i := 8) (v := _) (some 72) [9, 10, 11] [] rfl (Or.inl ⟨by rfl, Or.inl ?hy59⟩) ?rest59
  case hy59 => (intro w' kk ss; obtain ⟨x0, x1, x2', x3⟩ := bx4 (BC.out.since (L3.out.trans (hr0.trans kk))); obtain ⟨y0, y1, y2⟩ := CC.out _ (hr0.trans kk); go_simp; first | done | with_reducible rfl)
  try simp only [Act.put, List.setIfInBounds_toArray, List.set_cons_zero, List.set_cons_succ]
  refine' Reg.tk3 (i := 9) (v := _) (some 73) [10, 11] [] rfl (Or.inl ⟨by rfl, Or.inl ?hy60⟩) ?rest60
  case hy60 => (intro w' kk ss; obtain ⟨x0, x1, x2', x3⟩ := bx4 (BC.out.since (L3.out.trans (hr0.trans kk))); obtain ⟨y0, y1, y2⟩ := CC.out _ (hr0.trans kk); go_simp; first | done | with_reducible rfl)
  try simp only [Act.put, List.setIfInBounds_toArray, List.set_cons_zero, List.set_cons_succ]
  refine' Reg.tk3 (i := 10) (v := _) (some 74) [11] [] rfl (Or.inl ⟨by rfl, Or.inl ?hy61⟩) ?rest61
  case hy61 => (intro w' kk ss; obtain ⟨x0, x1, x2', x3⟩ := bx4 (BC.out.since (L3.out.trans (hr0.trans kk))); obtain ⟨y0, y1, y2⟩ := CC.out _ (hr0.trans kk); go_simp; first | done | with_reducible rfl)
  try simp only [Act.put, List.setIfInBounds_toArray, List.set_cons_zero, List.set_cons_succ]
  refine' Reg.tk3 (i := 11) (v := _) (some 4) [] [] rfl (Or.inl ⟨by rfl, Or.inl ?hy62⟩) ?rest62
  case hy62 => (intro w' kk ss; obtain ⟨x0, x1, x2', x3⟩ := bx4 (BC.out.since (L3.out.trans (hr0.trans kk))); obtain ⟨y0, y1, y2⟩ := CC.out _ (hr0.trans kk); go_simp; first | done | with_reducible rfl)
  try simp only [Act.put, List.setIfInBounds_toArray, List.set_cons_zero, List.set_cons_succ]
  refine Reg.wpG_done (by kernel_rfl) (fun we ke se => ?_) _
  refine NoPanic.normal ?_
  have hr0 := hr0.trans ke
  clear ke
  go_wp2
  all_goals
    go_ret
    refine RetT.of ?_ (K3.out.trans hr0)
    first | rfl | (simp [holdV, flg, lastV]; done) | (rw [Bool.eq_iff_iff]; simp [holdV]; omega)
set_option maxRecDepth 20000 in
set_option maxHeartbeats 3000000 in
theorem rholds10 (v va : Value) (cx ca : List Int) (cc : Int) (a : List Int) (w : World) (h : ConAt w v ⟨10, cx, ca, cc⟩) (ha : Sl 1 QI w va a) (hx : cx.length ≤ 1100000) (hca : ca.length ≤ 1100000) (hla : a.length ≤ 1100000) (hq : asked ⟨10, cx, ca, cc⟩ a = true) :
    Calls Try.prog 39 #[v, va] w (RetT (holdV 10 (vals cx a) ca cc) w) := by
  obtain ⟨hin, hkv⟩ := asked_parts hq
  simp only at hin hkv
  obtain ⟨p1, p2, p3, p4, p5, p6, p7, p8⟩ := askV_all hkv
  have hp3 : (vals cx a).length = 2 := by have := p2; simp [shp] at this; omega
  have hx3 : cx.length = 2 := by rw [← vals_len cx a]; exact hp3
  have AK := Lib.hid (fun W (k : Since w W) => by have := rasked_any v va _ a W (h.since k) (ha.since stI k) hx hca hla; rw [hq] at this; exact this)
  have VA := Lib.hid (fun W (k : Since w W) => show Calls Try.prog 76 #[v, va] W (fun e w' => ∃ B bc, e = .returned (.slice B 2 bc) ∧ Rb w w' (.slice B 2 bc) (vals cx a) ∧ Since W w') by have := rvalues_at h ha (by simp only; omega) hin W k; simp only [hx3] at this; exact this)
  have LN := Lib.hid (fun W => rlinear_any 10 W)
  generalize vals cx a = vl at *
  obtain ⟨p, q, rfl⟩ := len2 hp3
  have hpa := List.all_eq_true.1 p1
  obtain ⟨pl, ph⟩ := (within_iff2 p).1 (hpa p (by simp))
  obtain ⟨ql, qh⟩ := (within_iff2 q).1 (hpa q (by simp))
  obtain ⟨vx, vy, rfl, h1, h2⟩ := h
  simp only at *
  obtain ⟨X, xc, rfl⟩ := h1.form
  obtain ⟨Y, yc, rfl⟩ := h2.form
  obtain ⟨A, ac, rfl⟩ := ha.form
  generalize cx.length = nx at *
  generalize ca.length = na at *
  generalize a.length = nl at *
  have ka := Lib.hid (since_alloc w (.cells #[.int .i64 10, .slice X nx xc, .slice Y na yc, .int .i64 cc] 58))
  have BC := Lib.hid (Bx.fresh w #[.int .i64 10, .slice X nx xc, .slice Y na yc, .int .i64 cc] 58)
  clear h1 h2 ha hq hkv p1 p2 p3 p4 p5 p6 p7 p8 hin hpa hp3 hx3
  have HWa := Lib.hid (show IntKind.i64.wrap (-p) = -p from wrap_id' (by omega) (by omega))
  go_enter Try.func39, Try.ntmps39
  go_wp2_with (first | (go_at_call 74; (with_reducible refine (AK.out _ ka.out).mono ?_); rintro e w2 ⟨rfl, k2⟩; have K2 := Lib.hid (ka.out.trans k2); have L2 := Lib.hid k2; clear k2; obtain ⟨b0, b1, b2, b3⟩ := bx4 (BC.out.since L2.out)) | (go_at_call 76; (with_reducible refine (VA.out _ K2.out).mono ?_); rintro e w3 ⟨B, bc, rfl, q1, k3⟩; have K3 := Lib.hid (K2.out.trans k3); have L3 := Lib.hid (L2.out.trans k3); have Q1 := Lib.hid q1.sl; clear q1 k3; obtain ⟨b0, b1, b2, b3⟩ := bx4 (BC.out.since L3.out); obtain ⟨gb, ob, hB, CC⟩ := cells2 Q1.out; subst hB; have CC := Lib.hid CC; obtain ⟨c0, c1⟩ := CC.out _ (Since.refl _)) | (go_at_call 73; (with_reducible refine (LN.out _).mono ?_); rintro e w4 ⟨rfl, rfl⟩))
  have hr0 : Since w4 w4.drew := Since.drew (Since.refl w4)
  refine wp_region_noPanic ?_
  refine Reg.wp_region_G (S := fun _ => True) (fun j => [].contains j) (by kernel_rfl) trivial ?_
  refine' Reg.tk3 (i := 0) (v := _) (some 77) [1, 2, 7, 11, 12] [] rfl (Or.inl ⟨by rfl, Or.inl ?hy64⟩) ?rest64
  case hy64 => (intro w' kk ss; obtain ⟨x0, x1, x2', x3⟩ := bx4 (BC.out.since (L3.out.trans (hr0.trans kk))); obtain ⟨y0, y1⟩ := CC.out _ (hr0.trans kk); go_simp; first | done | with_reducible rfl)
  try simp only [Act.put, List.setIfInBounds_toArray, List.set_cons_zero, List.set_cons_succ]
  refine' Reg.tk3 (i := 1) (v := _) (some 78) [2, 7, 11, 12] [] rfl (Or.inl ⟨by rfl, Or.inl ?hy65⟩) ?rest65
  case hy65 => (intro w' kk ss; obtain ⟨x0, x1, x2', x3⟩ := bx4 (BC.out.since (L3.out.trans (hr0.trans kk))); obtain ⟨y0, y1⟩ := CC.out _ (hr0.trans kk); go_simp; first | done | with_reducible rfl)
  try simp only [Act.put, List.setIfInBounds_toArray, List.set_cons_zero, List.set_cons_succ]
  refine' Reg.tk3 (i := 2) (v := _) (some 79) [7, 11, 12] [] rfl (Or.inl ⟨by rfl, Or.inl ?hy66⟩) ?rest66
  case hy66 => (intro w' kk ss; obtain ⟨x0, x1, x2', x3⟩ := bx4 (BC.out.since (L3.out.trans (hr0.trans kk))); obtain ⟨y0, y1⟩ := CC.out _ (hr0.trans kk); go_simp; first | done | with_reducible rfl)
  try simp only [Act.put, List.setIfInBounds_toArray, List.set_cons_zero, List.set_cons_succ]
  refine' Reg.tk3 (i := 3) (v := _) (some 80) [4, 5, 6, 7, 11, 12] [] rfl (Or.inl ⟨by rfl, Or.inl ?hy67⟩) ?rest67
  case hy67 => (intro w' kk ss; obtain ⟨x0, x1, x2', x3⟩ := bx4 (BC.out.since (L3.out.trans (hr0.trans kk))); obtain ⟨y0, y1⟩ := CC.out _ (hr0.trans kk); go_simp; first | done | with_reducible rfl)
  try simp only [Act.put, List.setIfInBounds_toArray, List.set_cons_zero, List.set_cons_succ]
  refine' Reg.tk3 (i := 4) (v := _) (some 81) [5, 6, 7, 11, 12] [] rfl (Or.inl ⟨by rfl, Or.inl ?hy68⟩) ?rest68
  case hy68 => (intro w' kk ss; obtain ⟨x0, x1, x2', x3⟩ := bx4 (BC.out.since (L3.out.trans (hr0.trans kk))); obtain ⟨y0, y1⟩ := CC.out _ (hr0.trans kk); go_simp; first | done | with_reducible rfl)
  try simp only [Act.put, List.setIfInBounds_toArray, List.set_cons_zero, List.set_cons_succ]
  refine' Reg.tk3 (i := 5) (v := _) (some 82) [6, 7, 11, 12] [] rfl (Or.inl ⟨by rfl, Or.inl ?hy69⟩) ?rest69
  case hy69 => (intro w' kk ss; obtain ⟨x0, x1, x2', x3⟩ := bx4 (BC.out.since (L3.out.trans (hr0.trans kk))); obtain ⟨y0, y1⟩ := CC.out _ (hr0.trans kk); go_simp; first | done | with_reducible rfl)
  try simp only [Act.put, List.setIfInBounds_toArray, List.set_cons_zero, List.set_cons_succ]
  refine' Reg.tk3 (i := 6) (v := _) (some 83) [7, 11, 12] [] rfl (Or.inl ⟨by rfl, Or.inl ?hy70⟩) ?rest70
  case hy70 => (intro w' kk ss; obtain ⟨x0, x1, x2', x3⟩ := bx4 (BC.out.since (L3.out.trans (hr0.trans kk))); obtain ⟨y0, y1⟩ := CC.out _ (hr0.trans kk); go_simp; first | done | with_reducible rfl)
  try simp only [Act.put, List.setIfInBounds_toArray, List.set_cons_zero, List.set_cons_succ]
  refine' Reg.tk3 (i := 7) (v := _) (some 84) [11, 12] [] rfl (Or.inl ⟨by rfl, Or.inl ?hy71⟩) ?rest71
  case hy71 => (intro w' kk ss; obtain ⟨x0, x1, x2', x3⟩ := bx4 (BC.out.since (L3.out.trans (hr0.trans kk))); obtain ⟨y0, y1⟩ := CC.out _ (hr0.trans kk); go_simp; first | done | with_reducible rfl)
  try simp only [Act.put, List.setIfInBounds_toArray, List.set_cons_zero, List.set_cons_succ]
  refine' Reg.tk3 (i := 8) (v := _) (some 85) [9, 10, 11, 12] [] rfl (Or.inl ⟨by rfl, Or.inl ?hy72⟩) ?rest72
  case hy72 => (intro w' kk ss; obtain ⟨x0, x1, x2', x3⟩ := bx4 (BC.out.since (L3.out.trans (hr0.trans kk))); obtain ⟨y0, y1⟩ := CC.out _ (hr0.trans kk); go_simp; first | done | with_reducible rfl)
  try simp only [Act.put, List.setIfInBounds_toArray, List.set_cons_zero, List.set_cons_succ]
  refine' Reg.tk3 (i := 9) (v := _) (some 86) [10, 11, 12] [] rfl (Or.inl ⟨by rfl, Or.inl ?hy73⟩) ?rest73
  case hy73 => (intro w' kk ss; obtain ⟨x0, x1, x2', x3⟩ := bx4 (BC.out.since (L3.out.trans (hr0.trans kk))); obtain ⟨y0, y1⟩ := CC.out _ (hr0.trans kk); go_simp; first | done | with_reducible rfl)
  try simp only [Act.put, List.setIfInBounds_toArray, List.set_cons_zero, List.set_cons_succ]
  refine' Reg.tk3 (i := 10) (v := _) (some 87) [11, 12] [] rfl (Or.inl ⟨by rfl, Or.inl ?hy74⟩) ?rest74
  case hy74 => (intro w' kk ss; obtain ⟨x0, x1, x2', x3⟩ := bx4 (BC.out.since (L3.out.trans (hr0.trans kk))); obtain ⟨y0, y1⟩ := CC.out _ (hr0.trans kk); go_simp; first | done | with_reducible rfl)
  try simp only [Act.put, List.setIfInBounds_toArray, List.set_cons_zero, List.set_cons_succ]
  refine' Reg.tk3 (i := 11) (v := _) (some 88) [12] [] rfl (Or.inl ⟨by rfl, Or.inl ?hy75⟩) ?rest75
  case hy75 => (intro w' kk ss; obtain ⟨x0, x1, x2', x3⟩ := bx4 (BC.out.since (L3.out.trans (hr0.trans kk))); obtain ⟨y0, y1⟩ := CC.out _ (hr0.trans kk); go_simp; first | done | with_reducible rfl)
  try simp only [Act.put, List.setIfInBounds_toArray, List.set_cons_zero, List.set_cons_succ]
  refine' Reg.tk3 (i := 12) (v := _) (some 4) [] [] rfl (Or.inl ⟨by rfl, Or.inl ?hy76⟩) ?rest76
  case hy76 => (intro w' kk ss; obtain ⟨x0, x1, x2', x3⟩ := bx4 (BC.out.since (L3.out.trans (hr0.trans kk))); obtain ⟨y0, y1⟩ := CC.out _ (hr0.trans kk); go_simp; first | done | with_reducible rfl)
  try simp only [Act.put, List.setIfInBounds_toArray, List.set_cons_zero, List.set_cons_succ]
  refine Reg.wpG_done (by kernel_rfl) (fun we ke se => ?_) _
  refine NoPanic.normal ?_
  have hr0 := hr0.trans ke
  clear ke
  simp only [HWa.out]
  go_wp2
  all_goals
    go_ret
    refine RetT.of ?_ (K3.out.trans hr0)
    first | rfl | (simp [holdV, flg, lastV]; done) | (rw [Bool.eq_iff_iff]; simp [holdV]; omega)
end Go.Proofs.Ytalcgjkegohhgaa.Sn
