/- Layer 11 (sense): the document's own Holds. -/
import Derived.Test.YtalcgjkegohhgaaQbf
namespace Go.Proofs.Ytalcgjkegohhgaa.Sn
open Go.RowKit
set_option linter.unusedVariables false
set_option linter.unusedSimpArgs false
open Go.Proofs.Ytalcgjkegohhgaa.Dig Go.Proofs.Ytalcgjkegohhgaa.Lx Go.Proofs.Ytalcgjkegohhgaa.Tk Go.Proofs.Ytalcgjkegohhgaa.Ti Go.Proofs.Ytalcgjkegohhgaa.Zs Go.Proofs.Ytalcgjkegohhgaa.Tr
theorem len2 {v : List Int} (h : v.length = 2) : ∃ p q, v = [p, q] := by
  match v, h with
  | [p, q], _ => exact ⟨p, q, rfl⟩
theorem len3 {v : List Int} (h : v.length = 3) : ∃ p q r, v = [p, q, r] := by
  match v, h with
  | [p, q, r], _ => exact ⟨p, q, r, rfl⟩
theorem cells2 {w : World} {B : Option Addr} {bc : Nat} {p q : Int} (h : Sl 1 QI w (.slice B 2 bc) [p, q]) : ∃ g o, B = some ⟨g, o, none⟩ ∧ ∀ W, Since w W → W.cell? ⟨g, o, none⟩ = some (.int .i64 p) ∧ W.cell? ⟨g, o + 1, none⟩ = some (.int .i64 q) := by
  obtain ⟨g, o, rfl, -⟩ := elI h (i := 0) (by simp)
  refine ⟨g, o, rfl, fun W k => ?_⟩
  obtain ⟨g1, o1, e1, c1⟩ := elI (h.since stI k) (i := 0) (by simp)
  obtain ⟨g2, o2, e2, c2⟩ := elI (h.since stI k) (i := 1) (by simp)
  cases e1; cases e2
  exact ⟨c1, c2⟩
theorem cells3 {w : World} {B : Option Addr} {bc : Nat} {p q r : Int} (h : Sl 1 QI w (.slice B 3 bc) [p, q, r]) : ∃ g o, B = some ⟨g, o, none⟩ ∧ ∀ W, Since w W → W.cell? ⟨g, o, none⟩ = some (.int .i64 p) ∧ W.cell? ⟨g, o + 1, none⟩ = some (.int .i64 q) ∧ W.cell? ⟨g, o + 2, none⟩ = some (.int .i64 r) := by
  obtain ⟨g, o, rfl, -⟩ := elI h (i := 0) (by simp)
  refine ⟨g, o, rfl, fun W k => ?_⟩
  obtain ⟨g1, o1, e1, c1⟩ := elI (h.since stI k) (i := 0) (by simp)
  obtain ⟨g2, o2, e2, c2⟩ := elI (h.since stI k) (i := 1) (by simp)
  obtain ⟨g3, o3, e3, c3⟩ := elI (h.since stI k) (i := 2) (by simp)
  cases e1; cases e2; cases e3
  exact ⟨c1, c2, c3⟩
set_option maxRecDepth 20000 in
set_option maxHeartbeats 3000000 in
theorem rholds15 (v va : Value) (cx ca : List Int) (cc : Int) (a : List Int) (w : World) (h : ConAt w v ⟨15, cx, ca, cc⟩) (ha : Sl 1 QI w va a) (hx : cx.length ≤ 1100000) (hca : ca.length ≤ 1100000) (hla : a.length ≤ 1100000) (hq : asked ⟨15, cx, ca, cc⟩ a = true) :
    Calls Try.prog 39 #[v, va] w (RetT (holdV 15 (vals cx a) ca cc) w) := by
  obtain ⟨hin, hkv⟩ := asked_parts hq
  simp only at hin hkv
  obtain ⟨p1, p2, p3, p4, p5, p6, p7, p8⟩ := askV_all hkv
  have hp3 : (vals cx a).length = 2 := by have := p2; simp [shp] at this; omega
  have hx3 : cx.length = 2 := by rw [← vals_len cx a]; exact hp3
  have AK := Lib.hid (fun W (k : Since w W) => by have := rasked_any v va _ a W (h.since k) (ha.since stI k) hx hca hla; rw [hq] at this; exact this)
  have VA := Lib.hid (fun W (k : Since w W) => show Calls Try.prog 76 #[v, va] W (fun e w' => ∃ B bc, e = .returned (.slice B 2 bc) ∧ Rb w w' (.slice B 2 bc) (vals cx a) ∧ Since W w') by have := rvalues_at h ha (by simp only; omega) hin W k; simp only [hx3] at this; exact this)
  have LN := Lib.hid (fun W => rlinear_any 15 W)
  generalize vals cx a = vl at *
  obtain ⟨p, q, rfl⟩ := len2 hp3
  have hpa := List.all_eq_true.1 p1
  obtain ⟨pl, ph⟩ := (within_iff2 p).1 (hpa p (by simp))
  obtain ⟨ql, qh⟩ := (within_iff2 q).1 (hpa q (by simp))
  obtain ⟨vx, vy, rfl, h1, h2⟩ := h
  simp only at *
  obtain ⟨X, xc, rfl⟩ := h1.form
  obtain ⟨Y, yc, rfl⟩ := h2.form
  obtain ⟨A, ac, rfl⟩ := ha.form
  generalize cx.length = nx at *
  generalize ca.length = na at *
  generalize a.length = nl at *
  have ka := Lib.hid (since_alloc w (.cells #[.int .i64 15, .slice X nx xc, .slice Y na yc, .int .i64 cc] 58))
  have BC := Lib.hid (Bx.fresh w #[.int .i64 15, .slice X nx xc, .slice Y na yc, .int .i64 cc] 58)
  clear h1 h2 ha hq hkv p1 p2 p3 p4 p5 p6 p7 p8 hin hpa hp3 hx3
  go_enter Try.func39, Try.ntmps39
  go_wp2_with (first | (go_at_call 74; (with_reducible refine (AK.out _ ka.out).mono ?_); rintro e w2 ⟨rfl, k2⟩; have K2 := Lib.hid (ka.out.trans k2); have L2 := Lib.hid k2; clear k2; obtain ⟨b0, b1, b2, b3⟩ := bx4 (BC.out.since L2.out)) | (go_at_call 76; (with_reducible refine (VA.out _ K2.out).mono ?_); rintro e w3 ⟨B, bc, rfl, q1, k3⟩; have K3 := Lib.hid (K2.out.trans k3); have L3 := Lib.hid (L2.out.trans k3); have Q1 := Lib.hid q1.sl; clear q1 k3; obtain ⟨b0, b1, b2, b3⟩ := bx4 (BC.out.since L3.out); obtain ⟨gb, ob, hB, CC⟩ := cells2 Q1.out; subst hB; have CC := Lib.hid CC; obtain ⟨c0, c1⟩ := CC.out _ (Since.refl _)) | (go_at_call 73; (with_reducible refine (LN.out _).mono ?_); rintro e w4 ⟨rfl, rfl⟩))
  have hr0 : Since w4 w4.drew := Since.drew (Since.refl w4)
  refine wp_region_noPanic ?_
  refine Reg.wp_region_G (S := fun _ => True) (fun j => [].contains j) (by kernel_rfl) trivial ?_
  refine' Reg.tk3 (i := 0) (v := _) (some 91) [1, 2, 6, 7] [] rfl (Or.inl ⟨by rfl, Or.inl ?hy2⟩) ?rest2
  case hy2 => (intro w' kk ss; obtain ⟨x0, x1, x2', x3⟩ := bx4 (BC.out.since (L3.out.trans (hr0.trans kk))); obtain ⟨y0, y1⟩ := CC.out _ (hr0.trans kk); go_simp; first | done | with_reducible rfl)
  try simp only [Act.put, List.setIfInBounds_toArray, List.set_cons_zero, List.set_cons_succ]
  refine' Reg.tk3 (i := 1) (v := _) (some 92) [2, 6, 7] [] rfl (Or.inl ⟨by rfl, Or.inl ?hy3⟩) ?rest3
  case hy3 => (intro w' kk ss; obtain ⟨x0, x1, x2', x3⟩ := bx4 (BC.out.since (L3.out.trans (hr0.trans kk))); obtain ⟨y0, y1⟩ := CC.out _ (hr0.trans kk); go_simp; first | done | with_reducible rfl)
  try simp only [Act.put, List.setIfInBounds_toArray, List.set_cons_zero, List.set_cons_succ]
  refine' Reg.tk3 (i := 2) (v := _) (some 93) [6, 7] [] rfl (Or.inl ⟨by rfl, Or.inl ?hy4⟩) ?rest4
  case hy4 => (intro w' kk ss; obtain ⟨x0, x1, x2', x3⟩ := bx4 (BC.out.since (L3.out.trans (hr0.trans kk))); obtain ⟨y0, y1⟩ := CC.out _ (hr0.trans kk); go_simp; first | done | with_reducible rfl)
  try simp only [Act.put, List.setIfInBounds_toArray, List.set_cons_zero, List.set_cons_succ]
  refine' Reg.tk3 (i := 3) (v := _) (some 94) [4, 5, 6, 7] [] rfl (Or.inl ⟨by rfl, Or.inl ?hy5⟩) ?rest5
  case hy5 => (intro w' kk ss; obtain ⟨x0, x1, x2', x3⟩ := bx4 (BC.out.since (L3.out.trans (hr0.trans kk))); obtain ⟨y0, y1⟩ := CC.out _ (hr0.trans kk); go_simp; first | done | with_reducible rfl)
  try simp only [Act.put, List.setIfInBounds_toArray, List.set_cons_zero, List.set_cons_succ]
  refine' Reg.tk3 (i := 4) (v := _) (some 95) [5, 6, 7] [] rfl (Or.inl ⟨by rfl, Or.inl ?hy6⟩) ?rest6
  case hy6 => (intro w' kk ss; obtain ⟨x0, x1, x2', x3⟩ := bx4 (BC.out.since (L3.out.trans (hr0.trans kk))); obtain ⟨y0, y1⟩ := CC.out _ (hr0.trans kk); go_simp; first | done | with_reducible rfl)
  try simp only [Act.put, List.setIfInBounds_toArray, List.set_cons_zero, List.set_cons_succ]
  refine' Reg.tk3 (i := 5) (v := _) (some 96) [6, 7] [] rfl (Or.inl ⟨by rfl, Or.inl ?hy7⟩) ?rest7
  case hy7 => (intro w' kk ss; obtain ⟨x0, x1, x2', x3⟩ := bx4 (BC.out.since (L3.out.trans (hr0.trans kk))); obtain ⟨y0, y1⟩ := CC.out _ (hr0.trans kk); go_simp; first | done | with_reducible rfl)
  try simp only [Act.put, List.setIfInBounds_toArray, List.set_cons_zero, List.set_cons_succ]
  refine' Reg.tk3 (i := 6) (v := _) (some 97) [7] [] rfl (Or.inl ⟨by rfl, Or.inl ?hy8⟩) ?rest8
  case hy8 => (intro w' kk ss; obtain ⟨x0, x1, x2', x3⟩ := bx4 (BC.out.since (L3.out.trans (hr0.trans kk))); obtain ⟨y0, y1⟩ := CC.out _ (hr0.trans kk); go_simp; first | done | with_reducible rfl)
  try simp only [Act.put, List.setIfInBounds_toArray, List.set_cons_zero, List.set_cons_succ]
  refine' Reg.tk3 (i := 7) (v := _) (some 4) [] [] rfl (Or.inl ⟨by rfl, Or.inl ?hy9⟩) ?rest9
  case hy9 => (intro w' kk ss; obtain ⟨x0, x1, x2', x3⟩ := bx4 (BC.out.since (L3.out.trans (hr0.trans kk))); obtain ⟨y0, y1⟩ := CC.out _ (hr0.trans kk); go_simp; first | done | with_reducible rfl)
  try simp only [Act.put, List.setIfInBounds_toArray, List.set_cons_zero, List.set_cons_succ]
  refine Reg.wpG_done (by kernel_rfl) (fun we ke se => ?_) _
  refine NoPanic.normal ?_
  have hr0 := hr0.trans ke
  clear ke
  go_wp2
  all_goals
    go_ret
    refine RetT.of ?_ (K3.out.trans hr0)
    first | rfl | (simp [holdV, flg, lastV]; done) | (rw [Bool.eq_iff_iff]; simp [holdV]; omega)
set_option maxRecDepth 20000 in
set_option maxHeartbeats 3000000 in
theorem rholds7 (v va : Value) (cx ca : List Int) (cc : Int) (a : List Int) (w : World) (h : ConAt w v ⟨7, cx, ca, cc⟩) (ha : Sl 1 QI w va a) (hx : cx.length ≤ 1100000) (hca : ca.length ≤ 1100000) (hla : a.length ≤ 1100000) (hq : asked ⟨7, cx, ca, cc⟩ a = true) :
    Calls Try.prog 39 #[v, va] w (RetT (holdV 7 (vals cx a) ca cc) w) := by
  obtain ⟨hin, hkv⟩ := asked_parts hq
  simp only at hin hkv
  obtain ⟨p1, p2, p3, p4, p5, p6, p7, p8⟩ := askV_all hkv
  have hp3 : (vals cx a).length = 3 := by have := p2; simp [shp] at this; omega
  have hx3 : cx.length = 3 := by rw [← vals_len cx a]; exact hp3
  have AK := Lib.hid (fun W (k : Since w W) => by have := rasked_any v va _ a W (h.since k) (ha.since stI k) hx hca hla; rw [hq] at this; exact this)
  have VA := Lib.hid (fun W (k : Since w W) => show Calls Try.prog 76 #[v, va] W (fun e w' => ∃ B bc, e = .returned (.slice B 3 bc) ∧ Rb w w' (.slice B 3 bc) (vals cx a) ∧ Since W w') by have := rvalues_at h ha (by simp only; omega) hin W k; simp only [hx3] at this; exact this)
  have LN := Lib.hid (fun W => rlinear_any 7 W)
  generalize vals cx a = vl at *
  obtain ⟨p, q, r, rfl⟩ := len3 hp3
  have hpa := List.all_eq_true.1 p1
  obtain ⟨pl, ph⟩ := (within_iff2 p).1 (hpa p (by simp))
  obtain ⟨ql, qh⟩ := (within_iff2 q).1 (hpa q (by simp))
  obtain ⟨rl, rh⟩ := (within_iff2 r).1 (hpa r (by simp))
  obtain ⟨vx, vy, rfl, h1, h2⟩ := h
  simp only at *
  obtain ⟨X, xc, rfl⟩ := h1.form
  obtain ⟨Y, yc, rfl⟩ := h2.form
  obtain ⟨A, ac, rfl⟩ := ha.form
  generalize cx.length = nx at *
  generalize ca.length = na at *
  generalize a.length = nl at *
  have ka := Lib.hid (since_alloc w (.cells #[.int .i64 7, .slice X nx xc, .slice Y na yc, .int .i64 cc] 58))
  have BC := Lib.hid (Bx.fresh w #[.int .i64 7, .slice X nx xc, .slice Y na yc, .int .i64 cc] 58)
  clear h1 h2 ha hq hkv p1 p2 p3 p4 p5 p6 p7 p8 hin hpa hp3 hx3
  have HWa := Lib.hid (show IntKind.i64.wrap (p * q) = p * q from by have h1 := mul_lo ⟨pl, ph⟩ ⟨ql, qh⟩; have h2 := mul_hi ⟨pl, ph⟩ ⟨ql, qh⟩; exact wrap_id' (by omega) (by omega))
  go_enter Try.func39, Try.ntmps39
  go_wp2_with (first | (go_at_call 74; (with_reducible refine (AK.out _ ka.out).mono ?_); rintro e w2 ⟨rfl, k2⟩; have K2 := Lib.hid (ka.out.trans k2); have L2 := Lib.hid k2; clear k2; obtain ⟨b0, b1, b2, b3⟩ := bx4 (BC.out.since L2.out)) | (go_at_call 76; (with_reducible refine (VA.out _ K2.out).mono ?_); rintro e w3 ⟨B, bc, rfl, q1, k3⟩; have K3 := Lib.hid (K2.out.trans k3); have L3 := Lib.hid (L2.out.trans k3); have Q1 := Lib.hid q1.sl; clear q1 k3; obtain ⟨b0, b1, b2, b3⟩ := bx4 (BC.out.since L3.out); obtain ⟨gb, ob, hB, CC⟩ := cells3 Q1.out; subst hB; have CC := Lib.hid CC; obtain ⟨c0, c1, c2⟩ := CC.out _ (Since.refl _)) | (go_at_call 73; (with_reducible refine (LN.out _).mono ?_); rintro e w4 ⟨rfl, rfl⟩))
  have hr0 : Since w4 w4.drew := Since.drew (Since.refl w4)
  refine wp_region_noPanic ?_
  refine Reg.wp_region_G (S := fun _ => True) (fun j => [].contains j) (by kernel_rfl) trivial ?_
  refine' Reg.tk3 (i := 0) (v := _) (some 38) [1, 2, 6, 10, 11] [] rfl (Or.inl ⟨by rfl, Or.inl ?hy25⟩) ?rest25
  case hy25 => (intro w' kk ss; obtain ⟨x0, x1, x2', x3⟩ := bx4 (BC.out.since (L3.out.trans (hr0.trans kk))); obtain ⟨y0, y1, y2⟩ := CC.out _ (hr0.trans kk); go_simp; first | done | with_reducible rfl)
  try simp only [Act.put, List.setIfInBounds_toArray, List.set_cons_zero, List.set_cons_succ]
  refine' Reg.tk3 (i := 1) (v := _) (some 39) [2, 6, 10, 11] [] rfl (Or.inl ⟨by rfl, Or.inl ?hy26⟩) ?rest26
  case hy26 => (intro w' kk ss; obtain ⟨x0, x1, x2', x3⟩ := bx4 (BC.out.since (L3.out.trans (hr0.trans kk))); obtain ⟨y0, y1, y2⟩ := CC.out _ (hr0.trans kk); go_simp; first | done | with_reducible rfl)
  try simp only [Act.put, List.setIfInBounds_toArray, List.set_cons_zero, List.set_cons_succ]
  refine' Reg.tk3 (i := 2) (v := _) (some 40) [6, 10, 11] [] rfl (Or.inl ⟨by rfl, Or.inl ?hy27⟩) ?rest27
  case hy27 => (intro w' kk ss; obtain ⟨x0, x1, x2', x3⟩ := bx4 (BC.out.since (L3.out.trans (hr0.trans kk))); obtain ⟨y0, y1, y2⟩ := CC.out _ (hr0.trans kk); go_simp; first | done | with_reducible rfl)
  try simp only [Act.put, List.setIfInBounds_toArray, List.set_cons_zero, List.set_cons_succ]
  refine' Reg.tk3 (i := 3) (v := _) (some 41) [4, 5, 6, 10, 11] [] rfl (Or.inl ⟨by rfl, Or.inl ?hy28⟩) ?rest28
  case hy28 => (intro w' kk ss; obtain ⟨x0, x1, x2', x3⟩ := bx4 (BC.out.since (L3.out.trans (hr0.trans kk))); obtain ⟨y0, y1, y2⟩ := CC.out _ (hr0.trans kk); go_simp; first | done | with_reducible rfl)
  try simp only [Act.put, List.setIfInBounds_toArray, List.set_cons_zero, List.set_cons_succ]
  refine' Reg.tk3 (i := 4) (v := _) (some 42) [5, 6, 10, 11] [] rfl (Or.inl ⟨by rfl, Or.inl ?hy29⟩) ?rest29
  case hy29 => (intro w' kk ss; obtain ⟨x0, x1, x2', x3⟩ := bx4 (BC.out.since (L3.out.trans (hr0.trans kk))); obtain ⟨y0, y1, y2⟩ := CC.out _ (hr0.trans kk); go_simp; first | done | with_reducible rfl)
  try simp only [Act.put, List.setIfInBounds_toArray, List.set_cons_zero, List.set_cons_succ]
  refine' Reg.tk3 (i := 5) (v := _) (some 43) [6, 10, 11] [] rfl (Or.inl ⟨by rfl, Or.inl ?hy30⟩) ?rest30
  case hy30 => (intro w' kk ss; obtain ⟨x0, x1, x2', x3⟩ := bx4 (BC.out.since (L3.out.trans (hr0.trans kk))); obtain ⟨y0, y1, y2⟩ := CC.out _ (hr0.trans kk); go_simp; first | done | with_reducible rfl)
  try simp only [Act.put, List.setIfInBounds_toArray, List.set_cons_zero, List.set_cons_succ]
  refine' Reg.tk3 (i := 6) (v := _) (some 44) [10, 11] [] rfl (Or.inl ⟨by rfl, Or.inl ?hy31⟩) ?rest31
  case hy31 => (intro w' kk ss; obtain ⟨x0, x1, x2', x3⟩ := bx4 (BC.out.since (L3.out.trans (hr0.trans kk))); obtain ⟨y0, y1, y2⟩ := CC.out _ (hr0.trans kk); go_simp; first | done | with_reducible rfl)
  try simp only [Act.put, List.setIfInBounds_toArray, List.set_cons_zero, List.set_cons_succ]
  refine' Reg.tk3 (i := 7) (v := _) (some 45) [8, 9, 10, 11] [] rfl (Or.inl ⟨by rfl, Or.inl ?hy32⟩) ?rest32
  case hy32 => (intro w' kk ss; obtain ⟨x0, x1, x2', x3⟩ := bx4 (BC.out.since (L3.out.trans (hr0.trans kk))); obtain ⟨y0, y1, y2⟩ := CC.out _ (hr0.trans kk); go_simp; first | done | with_reducible rfl)
  try simp only [Act.put, List.setIfInBounds_toArray, List.set_cons_zero, List.set_cons_succ]
  refine' Reg.tk3 (i := 8) (v := _) (some 46) [9, 10, 11] [] rfl (Or.inl ⟨by rfl, Or.inl ?hy33⟩) ?rest33
  case hy33 => (intro w' kk ss; obtain ⟨x0, x1, x2', x3⟩ := bx4 (BC.out.since (L3.out.trans (hr0.trans kk))); obtain ⟨y0, y1, y2⟩ := CC.out _ (hr0.trans kk); go_simp; first | done | with_reducible rfl)
  try simp only [Act.put, List.setIfInBounds_toArray, List.set_cons_zero, List.set_cons_succ]
  refine' Reg.tk3 (i := 9) (v := _) (some 47) [10, 11] [] rfl (Or.inl ⟨by rfl, Or.inl ?hy34⟩) ?rest34
  case hy34 => (intro w' kk ss; obtain ⟨x0, x1, x2', x3⟩ := bx4 (BC.out.since (L3.out.trans (hr0.trans kk))); obtain ⟨y0, y1, y2⟩ := CC.out _ (hr0.trans kk); go_simp; first | done | with_reducible rfl)
  try simp only [Act.put, List.setIfInBounds_toArray, List.set_cons_zero, List.set_cons_succ]
  refine' Reg.tk3 (i := 10) (v := _) (some 48) [11] [] rfl (Or.inl ⟨by rfl, Or.inl ?hy35⟩) ?rest35
  case hy35 => (intro w' kk ss; obtain ⟨x0, x1, x2', x3⟩ := bx4 (BC.out.since (L3.out.trans (hr0.trans kk))); obtain ⟨y0, y1, y2⟩ := CC.out _ (hr0.trans kk); go_simp; first | done | with_reducible rfl)
  try simp only [Act.put, List.setIfInBounds_toArray, List.set_cons_zero, List.set_cons_succ]
  refine' Reg.tk3 (i := 11) (v := _) (some 4) [] [] rfl (Or.inl ⟨by rfl, Or.inl ?hy36⟩) ?rest36
  case hy36 => (intro w' kk ss; obtain ⟨x0, x1, x2', x3⟩ := bx4 (BC.out.since (L3.out.trans (hr0.trans kk))); obtain ⟨y0, y1, y2⟩ := CC.out _ (hr0.trans kk); go_simp; first | done | with_reducible rfl)
  try simp only [Act.put, List.setIfInBounds_toArray, List.set_cons_zero, List.set_cons_succ]
  refine Reg.wpG_done (by kernel_rfl) (fun we ke se => ?_) _
  refine NoPanic.normal ?_
  have hr0 := hr0.trans ke
  clear ke
  simp only [HWa.out]
  go_wp2
  all_goals
    go_ret
    refine RetT.of ?_ (K3.out.trans hr0)
    first | rfl | (simp [holdV, flg, lastV]; done) | (rw [Bool.eq_iff_iff]; simp [holdV]; omega)
end Go.Proofs.Ytalcgjkegohhgaa.Sn
