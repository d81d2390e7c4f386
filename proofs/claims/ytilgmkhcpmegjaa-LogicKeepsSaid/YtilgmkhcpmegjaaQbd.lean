/- Layer 11 (sense): the document's own linear, lin. Layer 11 (sense): the document's own Holds. Layer 11 (sense) -/
import Derived.Test.YtilgmkhcpmegjaaQbc
set_option linter.unusedVariables false
set_option linter.unusedSimpArgs false
section
namespace Go.Proofs.Ytilgmkhcpmegjaa.Sn
open Go.RowKit
open Go.Proofs.Ytilgmkhcpmegjaa.Dig Go.Proofs.Ytilgmkhcpmegjaa.Lx Go.Proofs.Ytilgmkhcpmegjaa.Tk Go.Proofs.Ytilgmkhcpmegjaa.Ti Go.Proofs.Ytilgmkhcpmegjaa.Zs Go.Proofs.Ytilgmkhcpmegjaa.Tr
theorem rlinear_any (k : Int) (w : World) : Calls Try.prog 112 #[.int .i64 k] w (fun e w' => e = .returned (.bool (decide (1 ≤ k ∧ k ≤ 6))) ∧ w' = w) := by
  by_cases c1 : 1 ≤ k
  · by_cases c2 : k ≤ 6
    · rw [decide_eq_true ⟨c1, c2⟩]
      go_enter Try.func112, Try.ntmps112
      go_wp2
      go_ret
      exact ⟨rfl, rfl⟩
    · rw [decide_eq_false (fun e => c2 e.2)]
      go_enter Try.func112, Try.ntmps112
      go_wp2
      go_ret
      exact ⟨rfl, rfl⟩
  · rw [decide_eq_false (fun e => c1 e.1)]
    go_enter Try.func112, Try.ntmps112
    go_wp2
    go_ret
    exact ⟨rfl, rfl⟩
section
open Go.RowKit
open Go.Proofs.Ytilgmkhcpmegjaa.Dig Go.Proofs.Ytilgmkhcpmegjaa.Lx Go.Proofs.Ytilgmkhcpmegjaa.Tk Go.Proofs.Ytilgmkhcpmegjaa.Ti Go.Proofs.Ytilgmkhcpmegjaa.Zs Go.Proofs.Ytilgmkhcpmegjaa.Tr
theorem Rb.sl {w0 w : World} {v : Value} {xs : List Int} (h : Rb w0 w v xs) : Sl 1 QI w v xs := by
  obtain ⟨b1, h1, h2⟩ := h
  exact (Rz.of h2).sl
theorem rvalues_at {v va : Value} {c : Cn} {a : List Int} {w : World} (h : ConAt w v c) (ha : Sl 1 QI w va a) (hx : c.x.length ≤ 32) (hin : inR c.x a = true) (W : World) (k : Since w W) :
    Calls Try.prog 115 #[v, va] W (fun e w' => ∃ B bc, e = .returned (.slice B c.x.length bc) ∧ Rb w w' (.slice B c.x.length bc) (vals c.x a) ∧ Since W w') :=
  (rvalues_any v va c a W (h.since k) (ha.since stI k) (by omega) hin).mono fun e w' ⟨B, bc, h1, h2⟩ => ⟨B, bc, h1, ⟨W, k, h2⟩, h2.s⟩
end
section
open Go.Proofs.Ytilgmkhcpmegjaa.Zs
theorem hold_clause {v a : List Int} {c : Int} (h : askV 11 v a c = true) : (a.zip v).any clauseE = holdV 11 v a c := by
  obtain ⟨p1, p2, p3, p4, p5, p6, p7, p8⟩ := askV_all h
  simp only [sgn, Bool.and_eq_true] at p3
  exact clause_lits p3.1 p8
theorem other_bit {v : List Int} (h : v.all bit = true) : ∀ x ∈ other v, x = 0 ∨ x = 1 := fun x hx =>
  (bit_iff _).1 (List.all_eq_true.1 h _ (List.mem_of_mem_take hx))
theorem hold_and {v a : List Int} {c : Int} (h : askV 12 v a c = true) : ((lastV v == 1) == ((other v).count 1 == (other v).length)) = holdV 12 v a c := by
  obtain ⟨p1, p2, p3, p4, p5, p6, p7, p8⟩ := askV_all h
  rw [count_all (other_bit (v := v) p8)]; rfl
theorem hold_or {v a : List Int} {c : Int} : ((lastV v == 1) == decide (0 < (other v).count 1)) = holdV 13 v a c := by
  rw [count_some]; rfl
end
end Go.Proofs.Ytilgmkhcpmegjaa.Sn
end
section
namespace Go.Proofs.Ytilgmkhcpmegjaa.Sn
open Go.RowKit
open Go.Proofs.Ytilgmkhcpmegjaa.Dig Go.Proofs.Ytilgmkhcpmegjaa.Lx Go.Proofs.Ytilgmkhcpmegjaa.Tk Go.Proofs.Ytilgmkhcpmegjaa.Ti Go.Proofs.Ytilgmkhcpmegjaa.Zs Go.Proofs.Ytilgmkhcpmegjaa.Tr
set_option maxRecDepth 20000 in
set_option maxHeartbeats 3000000 in
theorem rholds11 (v va : Value) (cx ca : List Int) (cc : Int) (a : List Int) (w : World) (h : ConAt w v ⟨11, cx, ca, cc⟩) (ha : Sl 1 QI w va a) (hx : cx.length ≤ 1100000) (hca : ca.length ≤ 1100000) (hla : a.length ≤ 1100000) (hq : asked ⟨11, cx, ca, cc⟩ a = true) :
    Calls Try.prog 59 #[v, va] w (RetT (holdV 11 (vals cx a) ca cc) w) := by
  obtain ⟨hin, hkv⟩ := asked_parts hq
  simp only at hin hkv
  obtain ⟨p1, p2, p3, p4, p5, p6, p7, p8⟩ := askV_all hkv
  have hnx : (vals cx a).length = cx.length := vals_len cx a
  have AK := Lib.hid (fun W (k : Since w W) => by have := rasked_any v va _ a W (h.since k) (ha.since stI k) hx hca hla; rw [hq] at this; exact this)
  have VA := Lib.hid (fun W (k : Since w W) => rvalues_at h ha (by simp only; omega) hin W k)
  have LN := Lib.hid (fun W => rlinear_any 11 W)
  have FN := Lib.hid (fun vv W (k : Since w W) (hl1 : Sl 1 QI W vv (vals cx a)) => rclause_any v vv _ (vals cx a) W (h.since k) hl1 (by have := p2; simp [shp] at this; simp only; omega) (by omega))
  obtain ⟨vx, vy, rfl, h1, h2⟩ := h
  simp only at *
  obtain ⟨X, xc, rfl⟩ := h1.form
  obtain ⟨Y, yc, rfl⟩ := h2.form
  obtain ⟨A, ac, rfl⟩ := ha.form
  generalize vals cx a = vl at *
  generalize cx.length = nx at *
  generalize ca.length = na at *
  generalize a.length = nl at *
  have ka := Lib.hid (since_alloc w (.cells #[.int .i64 11, .slice X nx xc, .slice Y na yc, .int .i64 cc] 25))
  have BC := Lib.hid (Bx.fresh w #[.int .i64 11, .slice X nx xc, .slice Y na yc, .int .i64 cc] 25)
  have HNX := Lib.hid hnx
  have HV := Lib.hid (hold_clause hkv)
  clear h1 h2 ha hq hkv p1 p2 p3 p4 p5 p6 p7 p8 hin hnx
  by_cases c0 : nx = 0
  case pos =>
    subst c0
    go_enter Try.func59, Try.ntmps59
    go_wp2_with (first | (go_at_call 113; (with_reducible refine (AK.out _ ka.out).mono ?_); rintro e w2 ⟨rfl, k2⟩; have K2 := Lib.hid (ka.out.trans k2); have L2 := Lib.hid k2; clear k2; obtain ⟨b0, b1, b2, b3⟩ := bx4 (BC.out.since L2.out)) | (go_at_call 115; (with_reducible refine (VA.out _ K2.out).mono ?_); rintro e w3 ⟨B, bc, rfl, q1, k3⟩; have K3 := Lib.hid (K2.out.trans k3); have L3 := Lib.hid (L2.out.trans k3); have Q1 := Lib.hid q1.sl; clear q1 k3; obtain ⟨b0, b1, b2, b3⟩ := bx4 (BC.out.since L3.out)) | (go_at_call 112; (with_reducible refine (LN.out _).mono ?_); rintro e w4 ⟨rfl, rfl⟩) | (go_at_call 118; (with_reducible refine (FN.out _ _ K3.out Q1.out).mono ?_); rintro e w5 ⟨rfl, k5⟩; have K5 := Lib.hid (K3.out.trans k5); clear k5))
    go_ret
    exact RetT.of HV.out K5.out
  have c1 : 0 < nx := by omega
  go_enter Try.func59, Try.ntmps59
  go_wp2_with (first | (go_at_call 113; (with_reducible refine (AK.out _ ka.out).mono ?_); rintro e w2 ⟨rfl, k2⟩; have K2 := Lib.hid (ka.out.trans k2); have L2 := Lib.hid k2; clear k2; obtain ⟨b0, b1, b2, b3⟩ := bx4 (BC.out.since L2.out)) | (go_at_call 115; (with_reducible refine (VA.out _ K2.out).mono ?_); rintro e w3 ⟨B, bc, rfl, q1, k3⟩; have K3 := Lib.hid (K2.out.trans k3); have L3 := Lib.hid (L2.out.trans k3); have Q1 := Lib.hid q1.sl; clear q1 k3; obtain ⟨b0, b1, b2, b3⟩ := bx4 (BC.out.since L3.out); obtain ⟨gb, ob, hB, cl⟩ := elI Q1.out (i := nx - 1) (by have := HNX.out; omega); subst hB) | (go_at_call 112; (with_reducible refine (LN.out _).mono ?_); rintro e w4 ⟨rfl, rfl⟩) | (go_at_call 118; (with_reducible refine (FN.out _ _ K3.out Q1.out).mono ?_); rintro e w5 ⟨rfl, k5⟩; have K5 := Lib.hid (K3.out.trans k5); clear k5))
  go_ret
  exact RetT.of HV.out K5.out
end Go.Proofs.Ytilgmkhcpmegjaa.Sn
end
section
namespace Go.Proofs.Ytilgmkhcpmegjaa.Sn
open Go.RowKit
open Go.Proofs.Ytilgmkhcpmegjaa.Dig Go.Proofs.Ytilgmkhcpmegjaa.Lx Go.Proofs.Ytilgmkhcpmegjaa.Tk Go.Proofs.Ytilgmkhcpmegjaa.Ti Go.Proofs.Ytilgmkhcpmegjaa.Zs Go.Proofs.Ytilgmkhcpmegjaa.Tr
set_option maxRecDepth 20000 in
set_option maxHeartbeats 3000000 in
theorem rholds12 (v va : Value) (cx ca : List Int) (cc : Int) (a : List Int) (w : World) (h : ConAt w v ⟨12, cx, ca, cc⟩) (ha : Sl 1 QI w va a) (hx : cx.length ≤ 1100000) (hca : ca.length ≤ 1100000) (hla : a.length ≤ 1100000) (hq : asked ⟨12, cx, ca, cc⟩ a = true) :
    Calls Try.prog 59 #[v, va] w (RetT (holdV 12 (vals cx a) ca cc) w) := by
  obtain ⟨hin, hkv⟩ := asked_parts hq
  simp only at hin hkv
  obtain ⟨p1, p2, p3, p4, p5, p6, p7, p8⟩ := askV_all hkv
  have hnx : (vals cx a).length = cx.length := vals_len cx a
  have AK := Lib.hid (fun W (k : Since w W) => by have := rasked_any v va _ a W (h.since k) (ha.since stI k) hx hca hla; rw [hq] at this; exact this)
  have VA := Lib.hid (fun W (k : Since w W) => rvalues_at h ha (by simp only; omega) hin W k)
  have LN := Lib.hid (fun W => rlinear_any 12 W)
  have hp1 : 1 ≤ cx.length := by have := p2; simp [shp] at this; omega
  obtain ⟨j, hj⟩ : ∃ j, cx.length = j + 1 := ⟨cx.length - 1, by omega⟩
  have FN := Lib.hid (fun B bc W (hl1 : Sl 1 QI W (.slice B (j + 1) bc) (vals cx a)) => show Calls Try.prog 119 #[.slice B j bc, .int .i64 1] W (fun e w' => e = .returned (.int .i64 ((other (vals cx a)).count 1 : Int)) ∧ Since W w' ∧ True) from rcount_any _ _ 1 W (by have := slTakeI hl1 j (by omega); rw [show other (vals cx a) = (vals cx a).take j by rw [other, vals_len, hj]; rfl]; exact this) (by simp [other]; omega))
  have HOL := Lib.hid (show (other (vals cx a)).length = j by simp [other]; omega)
  obtain ⟨vx, vy, rfl, h1, h2⟩ := h
  simp only at *
  obtain ⟨X, xc, rfl⟩ := h1.form
  obtain ⟨Y, yc, rfl⟩ := h2.form
  obtain ⟨A, ac, rfl⟩ := ha.form
  generalize vals cx a = vl at *
  generalize cx.length = nx at *
  generalize ca.length = na at *
  generalize a.length = nl at *
  have ka := Lib.hid (since_alloc w (.cells #[.int .i64 12, .slice X nx xc, .slice Y na yc, .int .i64 cc] 25))
  have BC := Lib.hid (Bx.fresh w #[.int .i64 12, .slice X nx xc, .slice Y na yc, .int .i64 cc] 25)
  subst hj
  have HV := Lib.hid (hold_and hkv)
  have HLV := Lib.hid (fun (hh : j < vl.length) => show vl[j] = lastV vl by simp [lastV, List.getD, hnx])
  have HNX := Lib.hid hnx
  clear h1 h2 ha hq hkv p1 p2 p3 p4 p5 p6 p7 p8 hin hnx hp1
  rw [HOL.out] at HV
  generalize (other vl).count 1 = m at *
  generalize holdV 12 vl ca cc = R at *
  go_enter Try.func59, Try.ntmps59
  go_wp2_with (first | (go_at_call 113; (with_reducible refine (AK.out _ ka.out).mono ?_); rintro e w2 ⟨rfl, k2⟩; have K2 := Lib.hid (ka.out.trans k2); have L2 := Lib.hid k2; clear k2; obtain ⟨b0, b1, b2, b3⟩ := bx4 (BC.out.since L2.out)) | (go_at_call 115; (with_reducible refine (VA.out _ K2.out).mono ?_); rintro e w3 ⟨B, bc, rfl, q1, k3⟩; have K3 := Lib.hid (K2.out.trans k3); have L3 := Lib.hid (L2.out.trans k3); have Q1 := Lib.hid q1.sl; clear q1 k3; obtain ⟨b0, b1, b2, b3⟩ := bx4 (BC.out.since L3.out); have hcap := Q1.out.at_.2; have hcap2 : j ≤ bc := (by have := HNX.out; omega); obtain ⟨gb, ob, hB, cl⟩ := elI Q1.out (i := j) (by have := HNX.out; omega); subst hB; rw [HLV.out] at cl) | (go_at_call 112; (with_reducible refine (LN.out _).mono ?_); rintro e w4 ⟨rfl, rfl⟩) | (go_at_call 119; (with_reducible refine (FN.out _ _ _ Q1.out).mono ?_); rintro e w5 ⟨rfl, k5, -⟩; have K5 := Lib.hid (K3.out.trans k5); clear k5))
  go_ret
  refine RetT.of ?_ K5.out
  rw [← HV.out]
  all_goals first | rfl | (congr 1; rw [Bool.eq_iff_iff]; simp only [beq_iff_eq, decide_eq_true_eq]; omega)
set_option maxRecDepth 20000 in
set_option maxHeartbeats 3000000 in
theorem rholds13 (v va : Value) (cx ca : List Int) (cc : Int) (a : List Int) (w : World) (h : ConAt w v ⟨13, cx, ca, cc⟩) (ha : Sl 1 QI w va a) (hx : cx.length ≤ 1100000) (hca : ca.length ≤ 1100000) (hla : a.length ≤ 1100000) (hq : asked ⟨13, cx, ca, cc⟩ a = true) :
    Calls Try.prog 59 #[v, va] w (RetT (holdV 13 (vals cx a) ca cc) w) := by
  obtain ⟨hin, hkv⟩ := asked_parts hq
  simp only at hin hkv
  obtain ⟨p1, p2, p3, p4, p5, p6, p7, p8⟩ := askV_all hkv
  have hnx : (vals cx a).length = cx.length := vals_len cx a
  have AK := Lib.hid (fun W (k : Since w W) => by have := rasked_any v va _ a W (h.since k) (ha.since stI k) hx hca hla; rw [hq] at this; exact this)
  have VA := Lib.hid (fun W (k : Since w W) => rvalues_at h ha (by simp only; omega) hin W k)
  have LN := Lib.hid (fun W => rlinear_any 13 W)
  have hp1 : 1 ≤ cx.length := by have := p2; simp [shp] at this; omega
  obtain ⟨j, hj⟩ : ∃ j, cx.length = j + 1 := ⟨cx.length - 1, by omega⟩
  have FN := Lib.hid (fun B bc W (hl1 : Sl 1 QI W (.slice B (j + 1) bc) (vals cx a)) => show Calls Try.prog 119 #[.slice B j bc, .int .i64 1] W (fun e w' => e = .returned (.int .i64 ((other (vals cx a)).count 1 : Int)) ∧ Since W w' ∧ True) from rcount_any _ _ 1 W (by have := slTakeI hl1 j (by omega); rw [show other (vals cx a) = (vals cx a).take j by rw [other, vals_len, hj]; rfl]; exact this) (by simp [other]; omega))
  have HOL := Lib.hid (show (other (vals cx a)).length = j by simp [other]; omega)
  obtain ⟨vx, vy, rfl, h1, h2⟩ := h
  simp only at *
  obtain ⟨X, xc, rfl⟩ := h1.form
  obtain ⟨Y, yc, rfl⟩ := h2.form
  obtain ⟨A, ac, rfl⟩ := ha.form
  generalize vals cx a = vl at *
  generalize cx.length = nx at *
  generalize ca.length = na at *
  generalize a.length = nl at *
  have ka := Lib.hid (since_alloc w (.cells #[.int .i64 13, .slice X nx xc, .slice Y na yc, .int .i64 cc] 25))
  have BC := Lib.hid (Bx.fresh w #[.int .i64 13, .slice X nx xc, .slice Y na yc, .int .i64 cc] 25)
  subst hj
  have HV := Lib.hid ((hold_or : _ = holdV 13 vl ca cc))
  have HLV := Lib.hid (fun (hh : j < vl.length) => show vl[j] = lastV vl by simp [lastV, List.getD, hnx])
  have HNX := Lib.hid hnx
  clear h1 h2 ha hq hkv p1 p2 p3 p4 p5 p6 p7 p8 hin hnx hp1
  generalize (other vl).count 1 = m at *
  generalize holdV 13 vl ca cc = R at *
  go_enter Try.func59, Try.ntmps59
  go_wp2_with (first | (go_at_call 113; (with_reducible refine (AK.out _ ka.out).mono ?_); rintro e w2 ⟨rfl, k2⟩; have K2 := Lib.hid (ka.out.trans k2); have L2 := Lib.hid k2; clear k2; obtain ⟨b0, b1, b2, b3⟩ := bx4 (BC.out.since L2.out)) | (go_at_call 115; (with_reducible refine (VA.out _ K2.out).mono ?_); rintro e w3 ⟨B, bc, rfl, q1, k3⟩; have K3 := Lib.hid (K2.out.trans k3); have L3 := Lib.hid (L2.out.trans k3); have Q1 := Lib.hid q1.sl; clear q1 k3; obtain ⟨b0, b1, b2, b3⟩ := bx4 (BC.out.since L3.out); have hcap := Q1.out.at_.2; have hcap2 : j ≤ bc := (by have := HNX.out; omega); obtain ⟨gb, ob, hB, cl⟩ := elI Q1.out (i := j) (by have := HNX.out; omega); subst hB; rw [HLV.out] at cl) | (go_at_call 112; (with_reducible refine (LN.out _).mono ?_); rintro e w4 ⟨rfl, rfl⟩) | (go_at_call 119; (with_reducible refine (FN.out _ _ _ Q1.out).mono ?_); rintro e w5 ⟨rfl, k5, -⟩; have K5 := Lib.hid (K3.out.trans k5); clear k5))
  go_ret
  refine RetT.of ?_ K5.out
  rw [← HV.out]
  all_goals first | rfl | (congr 1; rw [Bool.eq_iff_iff]; simp only [beq_iff_eq, decide_eq_true_eq]; omega)
end Go.Proofs.Ytilgmkhcpmegjaa.Sn
end
