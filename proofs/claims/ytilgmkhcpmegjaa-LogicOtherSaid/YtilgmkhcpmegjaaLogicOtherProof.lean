/-
  For all constraints and domains: the law LogicOther returns true (of variables that a constraint on truth values does not have nothing is taken, and what was handed in stays). No condition.
-/
import Derived.Test.YtilgmkhcpmegjaaRows
import Derived.WalkKit
import Derived.ProofKit
import Derived.OpenShut
import Derived.ShutString
import Derived.ChangeOld
import Derived.Below
import Derived.Test.YtilgmkhcpmegjaaCo
import Derived.Test.YtilgmkhcpmegjaaQbe
import Derived.Test.YtilgmkhcpmegjaaVo
import Derived.Test.YtilgmkhcpmegjaaQbp
namespace Go.Proofs.Ytilgmkhcpmegjaa.logicOther
open Go.ChangeShapes Go.WideShapes Go.ChangeAt Go.RowKit
open Go.ChangeMaps (open_string shut_string)
open Go.Proofs.Ytilgmkhcpmegjaa.Dig Go.Proofs.Ytilgmkhcpmegjaa.Zs Go.Proofs.Ytilgmkhcpmegjaa.Tr Go.Proofs.Ytilgmkhcpmegjaa.Sn Go.Proofs.Ytilgmkhcpmegjaa.Ln Go.Proofs.Ytilgmkhcpmegjaa.At Go.Proofs.Ytilgmkhcpmegjaa.Lgc
open Go.Proofs.Ytilgmkhcpmegjaa.Ti (Sl QR stR elR)
set_option linter.unusedVariables false

theorem own : ownKnob Try.prog.godebug = none := by kernel_rfl
theorem laidOut : laidOutB Try.prog = true := by kernel_rfl

/-- WHAT THE WALK IS TOLD OF A SLICE OF INTEGERS THAT CAME IN: it is nil; or it leads to a row of 'cap' cells, the numbers 'zs' (the first 'len' are its elements, the rest its spare room), each fitting its kind. -/
def IsRow (k : IntKind) (w : World) (a : Option Addr) (len cap : Nat) (zs : List Int) : Prop :=
  (a = none ∧ len = 0 ∧ cap = 0 ∧ zs = []) ∨
  ∃ x, a = some x ∧ len ≤ cap ∧ cap ≤ maxLen ∧ zs.length = cap ∧ (∀ i, i < zs.length → w.cell? (x.add i) = some (.int k (zs.getD i 0))) ∧ ∀ n ∈ zs, (Lit.int k n).wf = true

set_option maxRecDepth 100000 in
set_option maxHeartbeats 3000000 in
theorem walk (k0k : Int) (X0 : Option Addr) (n0 xc0 : Nat) (Y0 : Option Addr) (m0 yc0 : Nat) (e0 : Int) (z0 : Go.Proofs.Ytilgmkhcpmegjaa.Sn.Cn) (a1 : Option Addr) (len1 cap1 : Nat) (z1 : Go.Proofs.Ytilgmkhcpmegjaa.Tr.Ds) (w : World) (w0 : Go.Proofs.Ytilgmkhcpmegjaa.Sn.ConIn w k0k X0 n0 xc0 Y0 m0 yc0 e0 z0) (w1 : Go.Proofs.Ytilgmkhcpmegjaa.Tr.DomsIn w a1 len1 cap1 z1) :
    Calls Try.prog 7 #[.agg #[.int .i64 k0k, .slice X0 n0 xc0, .slice Y0 m0 yc0, .int .i64 e0], .slice a1 len1 cap1] w fun e w' => e = .returned (.bool true) ∧ Since w w' := by
  obtain ⟨hC, hBC, hcx, hca⟩ := w0
  obtain ⟨hl1, hD, hB1, hL1⟩ := w1
  subst hl1
  have AL := Lib.hid (fun W => Go.Proofs.Ytilgmkhcpmegjaa.Lgc.alive15_any W)
  have hbd : ∀ d ∈ z1, Bd d := fun d hd => (hB1 d hd).1
  have MI := Lib.hid (fun W (k : Since w W) => mine_any _ _ z0 z1 W (hC.since k) (hD.since stD k) hL1 (fun d hd => (hB1 d hd).2) hcx hca hbd)
  have S0 := Lib.hid (since_alloc w (.cells #[.int .i64 k0k, .slice X0 n0 xc0, .slice Y0 m0 yc0, .int .i64 e0] 25))
  have B0 := Lib.hid (Bx.fresh w #[.int .i64 k0k, .slice X0 n0 xc0, .slice Y0 m0 yc0, .int .i64 e0] 25)
  obtain ⟨f, hf⟩ : ∃ f, mineB z0 z1 = f := ⟨_, rfl⟩
  rw [hf] at MI
  cases f with
  | false =>
    clear hf hC hD hB1 hL1 hBC hcx hca hbd
    obtain ⟨b0, b1, b2, b3⟩ := bx4 B0.out
    go_enter Try.func7, Try.ntmps7
    go_wp2_with (first | (go_at_call 15; (with_reducible refine (AL.out _).mono ?_); rintro e w1 ⟨rfl, k1⟩; have U1 := Lib.hid k1; have T1 := Lib.hid (S0.out.trans k1); obtain ⟨b0, b1, b2, b3⟩ := bx4 (B0.out.since k1); clear k1) | (go_at_call 21; (with_reducible refine (MI.out _ T1.out).mono ?_); rintro e w3 ⟨rfl, k3⟩; have U3 := Lib.hid (U1.out.trans k3); have T3 := Lib.hid (T1.out.trans k3); obtain ⟨b0, b1, b2, b3⟩ := bx4 (B0.out.since U3.out); clear k3))
    go_ret
    exact ⟨rfl, T3.out⟩
  | true =>
  obtain ⟨hk, hsz, h100, hm⟩ := mine_parts hf
  clear hf
  obtain ⟨vx, vy, hh, hXX, -⟩ := id hC
  injection hh with hh
  simp at hh
  obtain ⟨hkq, hvx, -⟩ := hh
  rw [← hvx] at hXX
  have hkk : z0.k = k0k := hkq.symm
  clear hvx hkq
  obtain ⟨m1, m2, m3⟩ := mod_parts hm
  have NA := Lib.hid (fun W (k : Since w W) => logic_any _ _ z0 z1 W (hC.since k) (hD.since stD k) hsz)
  have hx := (con_x m3).1
  have OT := Lib.hid (fun E (he : logL z0.k z0.x z0.a z1 = some E) (y : Nat) (hy : y < z1.length) (hn : (y : Int) ∉ z0.x) => ((log_ok m3 hk).ok _ _ m1 rfl he).2.2 y hy hn)
  have G1 := Lib.hid (fun E (he : logL z0.k z0.x z0.a z1 = some E) => And.intro ((log_ok m3 hk).ok _ _ m1 rfl he).1 ((log_ok m3 hk).ok _ _ m1 rfl he).2.1)
  rw [logO_is hm hk rfl] at NA
  generalize logL z0.k z0.x z0.a z1 = R at *
  unfold RetNr at NA
  have HD := Lib.hid hD
  have HX := Lib.hid hXX
  have HG := Lib.hid m1
  have HX2 := Lib.hid (con_x m3).2.1
  have DM := Lib.hid (fun W v2 (h1 : Sl 1 QD W (.slice a1 z1.length cap1) z1) (h2 : Sl 1 QD W v2 z1) => show Calls Try.prog 19 #[.slice a1 z1.length cap1, v2] W (Go.Proofs.Ytilgmkhcpmegjaa.Zs.RetT true W) by have := doms_any _ v2 z1 z1 W h1 h2 (by omega) (by omega) (fun d hd => right_len (m1 d hd).1); rw [decide_eq_true rfl] at this; exact this)
  obtain ⟨n, hn⟩ : ∃ n, n = z1.length := ⟨_, rfl⟩
  have hn64 : n ≤ 100 := by omega
  rw [← hn] at HD MI NA DM ⊢
  have HN := Lib.hid hn
  have hnx := hXX.at_.1
  have HNX := Lib.hid hnx
  have hn0 : n0 ≤ 1000 := by have := HX2.out; omega
  clear hC hD hB1 hL1 hBC hcx hca hsz h100 hbd hm hkk hk m1 m2 m3 hx hn hXX hnx HX2
  have hmk := make_doms n (by omega)
  obtain ⟨b0, b1, b2, b3⟩ := bx4 B0.out
  go_enter Try.func7, Try.ntmps7
  go_wp2_with (first | (go_at_call 15; (with_reducible refine (AL.out _).mono ?_); rintro e w1 ⟨rfl, k1⟩; have U1 := Lib.hid k1; have T1 := Lib.hid (S0.out.trans k1); obtain ⟨b0, b1, b2, b3⟩ := bx4 (B0.out.since k1); clear k1) | (go_at_call 21; (with_reducible refine (MI.out _ T1.out).mono ?_); rintro e w3 ⟨rfl, k3⟩; have U3 := Lib.hid (U1.out.trans k3); have T3 := Lib.hid (T1.out.trans k3); obtain ⟨b0, b1, b2, b3⟩ := bx4 (B0.out.since U3.out); clear k3))
  have MD := Lib.hid (made_doms w3 n)
  go_loopw [25] (fun i wr => ∃ (k : Nat), i = .int .i64 (k : Int) ∧ k ≤ n ∧ Hid (w3.heap.size < wr.heap.size) ∧ Hid (DAt w3.heap.size n w3 wr (z1.take k ++ List.replicate (n - k) [])) ∧ Hid (Since w3 wr)) (fun i _ => n - (intOf i).toNat)
  case atStart => exact ⟨0, rfl, Nat.zero_le _, Lib.hid (by simp), Lib.hid (by simpa using MD.out), Lib.hid (since_alloc _ _)⟩
  case round =>
    obtain ⟨k, rfl, hk, HS, HR, HW⟩ := hrel
    by_cases hkn : k < n
    · have hkl : k < z1.length := by have := HN.out; omega
      obtain ⟨g, o, B, cB, rfl, hS, ed⟩ := elD (HD.out.since stD (T3.out.trans HW.out)) hkl
      have T := Lib.hid (List.take_succ_eq_append_getElem hkl)
      have hdl := right_len (HG.out _ (List.getElem_mem hkl)).1
      generalize z1[k] = y at *
      obtain ⟨p, hp⟩ : ∃ p, p = y.length := ⟨_, rfl⟩
      rw [← hp] at ed hS hdl
      have hfz : wr.frozen? ⟨w3.heap.size, k, none⟩ = false := HR.out.no hkn
      have HSS := Lib.hid hS
      have PU := Lib.hid (fun (w2 : World) (u : Value) (k2 : Since wr w2) (hu : NewR wr w2 u y) => HR.out.put2 k2 (i := k) hkn hu HW.out.size HS.out)
      have FZ := Lib.hid (fun (w2 : World) (k2 : Since wr w2) => (HR.out.since k2).no hkn)
      have CE := Lib.hid (fun (w2 : World) (k2 : Since wr w2) => show ∃ u, w2.cell? ⟨w3.heap.size, k, none⟩ = some u from (let ⟨A, c, h1, _⟩ := (HR.out.since k2).get (i := k) (by have := HN.out; simp; omega); ⟨_, h1⟩))
      obtain ⟨b0, b1, b2, b3⟩ := bx4 (B0.out.since (U3.out.trans HW.out))
      clear hS hkl hp
      go_wp2_with (at_builtin; go_loud ((refine wpList_appIn (Rw.nil (Since.refl wr)) (by simp) HSS.out (by omega) (by rfl) _ _ rfl rfl rfl ?_); intro A2 c2 w9 h2 _; have K9 := Lib.hid h2.2; have F2 := FZ.out w9 h2.2; obtain ⟨u2, C2⟩ := CE.out w9 h2.2; have HP := Lib.hid (PU.out w9 _ h2.2 (rw_new h2)); clear h2))
      go_roundw
      case rel =>
        refine ⟨k + 1, by go_num, by omega, Lib.hid ?_, Lib.hid ?_, Lib.hid ?_⟩
        · simp [World.setCell]; exact Nat.lt_of_lt_of_le HS.out K9.out.size
        · have h := HP.out
          have e : (z1.take k ++ List.replicate (n - k) []).set k y = z1.take (k + 1) ++ List.replicate (n - (k + 1)) [] := by
            rw [T.out, show n - k = (n - (k + 1)) + 1 by omega, List.replicate_succ]
            exact set_mid _ _ _ _ (by rw [List.length_take]; have := HN.out; omega)
          rw [e] at h
          simp only [List.length_nil, Nat.zero_add] at h
          exact h
        · exact (HW.out.trans K9.out).set (Nat.le_refl _) _
      case measure => simp [intOf]; omega
    · obtain rfl : k = n := by omega
      have WAS := Lib.hid (show DAt w3.heap.size k w3 wr z1 by
        have h := HR.out
        rwa [Nat.sub_self, List.replicate_zero, List.append_nil, List.take_of_length_le (by have := HN.out; omega)] at h)
      have T5 := Lib.hid (T3.out.trans HW.out)
      have U5 := Lib.hid (U3.out.trans HW.out)
      have WS := Lib.hid WAS.out.sl
      have D5 := Lib.hid (HD.out.since stD T5.out)
      obtain ⟨b0, b1, b2, b3⟩ := bx4 (B0.out.since U5.out)
      clear HR WAS MD hmk
      cases R with
      | none =>
        simp only [Option.isSome_none, Bool.false_eq_true, if_false] at NA
        go_wp2_with (first
          | (go_at_call 17; (with_reducible refine (NA.out _ T5.out).mono ?_); rintro e w6 ⟨k6, rfl⟩; have T6 := Lib.hid (T5.out.trans k6); have D6 := Lib.hid (D5.out.since stD k6); have W6 := Lib.hid (WS.out.since stD k6); clear k6)
          | (go_at_call 19; (with_reducible refine (DM.out _ _ D6.out W6.out).mono ?_); rintro e w7 ⟨rfl, k7⟩; have T7 := Lib.hid (T6.out.trans k7); clear k7))
        go_ret
        exact ⟨rfl, T7.out⟩
      | some E =>
        simp only [Option.isSome_some, if_true] at NA
        have OTE := Lib.hid (OT.out E rfl)
        have GE := Lib.hid (G1.out E rfl).1
        have hel := (G1.out E rfl).2.1
        go_wp2_with (first
          | (go_at_call 17; (with_reducible refine (NA.out _ T5.out).mono ?_); rintro e w6 ⟨k6, g, n2, rfl, hg1, hg2, hD6⟩; obtain ⟨cs, hO⟩ := hD6.outs GE.out hg1; have hn2 : k = n2 := (by have h1 := hO.len; have := HN.out; omega); subst hn2; have O6 := Lib.hid hO; have T6 := Lib.hid (T5.out.trans k6); have K6 := Lib.hid k6; have D6 := Lib.hid (D5.out.since stD k6); have W6 := Lib.hid (WS.out.since stD k6); clear k6 hO hD6 hg1 hg2)
          | (go_at_call 19; (with_reducible refine (DM.out _ _ D6.out W6.out).mono ?_); rintro e w7 ⟨rfl, k7⟩; have T7 := Lib.hid (T6.out.trans k7); have K7 := Lib.hid (K6.out.trans k7); have O7 := Lib.hid (O6.out.since k7); clear k7))
        have LB := Lib.hid (B0.out.since U5.out)
        have LX := Lib.hid (qi_low (Nat.le_refl wr.heap.size) (HX.out.since stI T5.out))
        have LD := Lib.hid (qd_low (Nat.le_refl wr.heap.size) D5.out)
        have LW := Lib.hid (qd_low (Nat.le_refl wr.heap.size) WS.out)
        have LT := Lib.hid (show w.heap.size < wr.heap.size from Nat.lt_of_lt_of_le B0.out.lt U5.out.size)
        have LO := Lib.hid (fun kk W (t : Turn (hot cs kk) w7 W) => show Turn (low wr.heap.size) wr W from (Turn.of K7.out _).trans (Turn.mono t fun b hb => O7.out.hot_low hb))
        have hLT := LT.out
        have LS := Lib.hid (fun kk W (t : Turn (hot cs kk) w7 W) => since_turn T7.out t fun b hb => O7.out.hot_low (low_no (by have := LT.out; omega)))
        have RG := Lib.hid (fun W v1 v2 (l : List Rn) (h1 : Sl 2 QR W v1 l) (h2 : Sl 2 QR W v2 l) (hl : l.length ≤ 1100000) => ranges_same h1 h2 hl)
        have HEL := Lib.hid hel
        clear OT G1 NA K6 K7 D6 W6 O6 hel
        go_loopw [54] (fun i wr2 => ∃ (x : Nat), i = .int .i64 (x : Int) ∧ x ≤ k ∧ Hid (Turn (hot cs x) w7 wr2)) (fun i _ => k - (intOf i).toNat)
        case atStart => exact ⟨0, rfl, Nat.zero_le _, Lib.hid (Turn.refl _ _)⟩
        case round =>
          obtain ⟨x, rfl, hx, HT⟩ := hrel
          by_cases hxk : x < k
          · have hxE : x < E.length := by have := O7.out.len; omega
            have hxz : x < z1.length := by have := HN.out; omega
            have TL := Lib.hid (LO.out x _ HT.out)
            have BL := Lib.hid (Turn.bx TL.out LB.out (low_no LT.out))
            have XS := Lib.hid (qi_unveil (LX.out.since stI (TL.out.veil fun _ _ => rfl)))
            obtain ⟨b, o, c, C0, Ccs, SE, hpos, hbg, hfz⟩ := O7.out.at_ HT.out hxE
            obtain ⟨gd, od, Bd, cd, hA1, hSd, ed⟩ := elD (sld_unveil (LD.out.since stD (TL.out.veil fun _ _ => rfl))) hxz
            have EQ := Lib.hid (fun (h : (x : Int) ∉ z0.x) => show E[x] = z1[x] by
              have h1 := OTE.out x hxz h
              rw [domAt_lt (by exact hxE), domAt_lt (by exact hxz)] at h1
              exact h1)
            have hr9 := right_len (GE.out _ (List.getElem_mem hxE)).1
            subst hA1
            obtain ⟨b0, b1, b2, b3⟩ := bx4 BL.out
            go_wp2
            go_loopw [10, 60] (fun m i wr3 => ∃ (j : Nat), i = .int .i64 (j : Int) ∧ m = .bool (decide ((x : Int) ∈ z0.x.take j)) ∧ j ≤ n0 ∧ wr3 = wr) (fun _ i _ => n0 - (intOf i).toNat)
            case atStart => exact ⟨0, rfl, by simp, Nat.zero_le _, rfl⟩
            case round =>
              obtain ⟨j, rfl, rfl, hj, rfl⟩ := hrel
              by_cases hjn : j < n0
              · have hjx : j < z0.x.length := by have := HNX.out; omega
                obtain ⟨gx, ox, hAx, ex⟩ := elI XS.out hjx
                have MN := mem_next hjx (x : Int)
                generalize z0.x[j] = y at *
                subst hAx
                by_cases hm : (x : Int) ∈ z0.x.take j
                · rw [decide_eq_true hm]
                  go_wp2
                  go_roundw
                  case rel => exact ⟨j + 1, by go_num, by rw [decide_eq_true (MN.2 (.inl hm))], by omega, by first | rfl | trivial⟩
                  case measure => simp [intOf]; omega
                · rw [decide_eq_false hm]
                  by_cases hy : (x : Int) = y
                  · have hd : decide ((x : Int) ∈ z0.x.take (j + 1)) = true := decide_eq_true (MN.2 (.inr hy))
                    go_wp2
                    go_roundw
                    case rel => exact ⟨j + 1, by go_num, by first | (rw [hd]; done) | (rw [hd]; simp [hy]; done) | (simp [hd, hy]; done), by omega, by first | rfl | trivial⟩
                    case measure => simp [intOf]; omega
                  · have hd : decide ((x : Int) ∈ z0.x.take (j + 1)) = false := decide_eq_false (fun h => (MN.1 h).elim hm hy)
                    go_wp2
                    go_roundw
                    case rel => exact ⟨j + 1, by go_num, by first | (rw [hd]; done) | (rw [hd]; simp [hy]; done) | (simp [hd, hy]; done), by omega, by first | rfl | trivial⟩
                    case measure => simp [intOf]; omega
              · obtain rfl : j = n0 := by omega
                rw [List.take_of_length_le (by have := HNX.out; omega)]
                obtain ⟨p, hp⟩ : ∃ p, p = E[x].length := ⟨_, rfl⟩
                have hp9 : p ≤ 1100000 := by rw [hp]; exact hr9
                obtain ⟨pz, hpz⟩ : ∃ p, p = z1[x].length := ⟨_, rfl⟩
                have RG2 := Lib.hid (fun (h : (x : Int) ∉ z0.x) W (kk : Since wr W) => show Calls Try.prog 27 #[.slice (some ⟨b, o, none⟩) p c, .slice Bd pz cd] W (fun e w' => e = .returned (.bool true) ∧ Since W w' ∧ True) by
                  have e := EQ.out h
                  rw [hp, hpz, ← e]
                  rw [← e] at hSd
                  exact (RG.out W _ _ _ (SE.since stR kk) (hSd.since stR kk) hr9).mono fun e w' h => ⟨h.1, h.2, trivial⟩)
                have hpp : 0 < p := by rw [hp]; exact hpos
                rw [← hp] at SE C0 Ccs
                rw [← hpz] at ed
                have HP := Lib.hid hp
                have HCS := Lib.hid Ccs
                have HSE := Lib.hid SE
                have CC := Lib.hid (fun W (kk : Since wr W) => show W.cell? ⟨g, x, none⟩ = some (.slice (some ⟨b, o, none⟩) p c) from (kk.cell _ (World.block_lt_of_cell? _ _ C0)).trans C0)
                have CD := Lib.hid (fun W (kk : Since wr W) => show W.cell? ⟨gd, od + x, none⟩ = some (.slice Bd pz cd) from (kk.cell _ (World.block_lt_of_cell? _ _ ed)).trans ed)
                have FW := Lib.hid (fun W (kk : Since wr W) q => show W.frozen? ⟨b, q, none⟩ = false from (World.frozen?_of_block (w := wr) (a := ⟨b, q, none⟩) (kk.block b (sl_lt3 SE (fun e => by rw [e] at hp; simp at hp; omega) rfl))).trans (hfz q))
                clear hp hpz SE C0 ed hSd Ccs hpos hr9
                by_cases hm : (x : Int) ∈ z0.x
                · rw [decide_eq_true hm]
                  clear RG2 EQ
                  go_wp2
                  have hr0 : Since wr wr.drew := Since.drew (Since.refl wr)
                  refine wp_region_noPanic ?_
                  refine Reg.wp_region_G (S := fun _ => True) (fun j => [].contains j) (by kernel_rfl) trivial ?_
                  refine' Reg.wpG_take (i := 0) (oi := { dst := some 71, op := Op.move (Operand.tmp 10), type := 4, pos := "law.go:128", after := #[], guard := none }) (v := _) [1, 2, 3, 4, 5, 6, 7, 8, 9, 10, 11, 12, 13] [] rfl rfl (by kernel_rfl) (by kernel_rfl) (by kernel_rfl) (by kernel_rfl) (by kernel_rfl) (by kernel_rfl) (by kernel_rfl) (fun _ _ _ h => h) (Or.inl ⟨by rfl, Or.inl ?hy2⟩) ?rest2
                  case hy2 => (intro w' kk ss; have qc := CC.out _ (hr0.trans kk); have qd := CD.out _ (hr0.trans kk); go_simp; first | done | with_reducible rfl)
                  try simp only [Act.put, List.setIfInBounds_toArray, List.set_cons_zero, List.set_cons_succ]
                  refine' Reg.wpG_take (i := 1) (oi := { dst := some 72, op := Op.unOp UnOp.not 4 (Operand.tmp 71), type := 4, pos := "law.go:128", after := #[{ on := 0, ground := Ground.data }], guard := none }) (v := _) [2, 3, 4, 5, 6, 7, 8, 9, 10, 11, 12, 13] [] rfl rfl (by kernel_rfl) (by kernel_rfl) (by kernel_rfl) (by kernel_rfl) (by kernel_rfl) (by kernel_rfl) (by kernel_rfl) (fun _ _ _ h => h) (Or.inl ⟨by rfl, Or.inl ?hy3⟩) ?rest3
                  case hy3 => (intro w' kk ss; have qc := CC.out _ (hr0.trans kk); have qd := CD.out _ (hr0.trans kk); go_simp; first | done | with_reducible rfl)
                  try simp only [Act.put, List.setIfInBounds_toArray, List.set_cons_zero, List.set_cons_succ]
                  refine' Reg.wpG_take (i := 2) (oi := { dst := some 73, op := Op.move (Operand.tmp 72), type := 4, pos := "law.go:128", after := #[{ on := 1, ground := Ground.data }], guard := none }) (v := _) [3, 4, 5, 6, 7, 8, 9, 10, 11, 12, 13] [] rfl rfl (by kernel_rfl) (by kernel_rfl) (by kernel_rfl) (by kernel_rfl) (by kernel_rfl) (by kernel_rfl) (by kernel_rfl) (fun _ _ _ h => h) (Or.inl ⟨by rfl, Or.inl ?hy4⟩) ?rest4
                  case hy4 => (intro w' kk ss; have qc := CC.out _ (hr0.trans kk); have qd := CD.out _ (hr0.trans kk); go_simp; first | done | with_reducible rfl)
                  try simp only [Act.put, List.setIfInBounds_toArray, List.set_cons_zero, List.set_cons_succ]
                  refine Reg.wpG_take (i := 3) (oi := { dst := some 74, op := Op.move (Operand.tmp 7), type := 26, pos := "law.go:128", after := #[{ on := 2, ground := Ground.guard }], guard := some (2, true) }) (v := undef) [5, 6, 11, 12, 13] [] rfl rfl (by kernel_rfl) (by kernel_rfl) (by kernel_rfl) (by kernel_rfl) (by kernel_rfl) (by kernel_rfl) (by kernel_rfl) (fun _ _ _ h => h) (Or.inr ⟨by rfl, rfl⟩) ?_
                  try simp only [Act.put, List.setIfInBounds_toArray, List.set_cons_zero, List.set_cons_succ]
                  refine Reg.wpG_take (i := 4) (oi := { dst := some 75, op := Op.move (Operand.tmp 9), type := 3, pos := "law.go:128", after := #[{ on := 2, ground := Ground.guard }], guard := some (2, true) }) (v := undef) [5, 6, 11, 12, 13] [] rfl rfl (by kernel_rfl) (by kernel_rfl) (by kernel_rfl) (by kernel_rfl) (by kernel_rfl) (by kernel_rfl) (by kernel_rfl) (fun _ _ _ h => h) (Or.inr ⟨by rfl, rfl⟩) ?_
                  try simp only [Act.put, List.setIfInBounds_toArray, List.set_cons_zero, List.set_cons_succ]
                  refine Reg.wpG_take (i := 5) (oi := { dst := some 76, op := Op.indexAddr 26 (Operand.tmp 74) (Operand.tmp 75), type := 0, pos := "law.go:128", after := #[{ on := 3, ground := Ground.data }, { on := 4, ground := Ground.data }, { on := 2, ground := Ground.guard }], guard := some (2, true) }) (v := undef) [6, 11, 12, 13] [] rfl rfl (by kernel_rfl) (by kernel_rfl) (by kernel_rfl) (by kernel_rfl) (by kernel_rfl) (by kernel_rfl) (by kernel_rfl) (fun _ _ _ h => h) (Or.inr ⟨by rfl, rfl⟩) ?_
                  try simp only [Act.put, List.setIfInBounds_toArray, List.set_cons_zero, List.set_cons_succ]
                  refine Reg.wpG_take (i := 6) (oi := { dst := some 77, op := Op.load 43 (Operand.tmp 76), type := 43, pos := "law.go:128", after := #[{ on := 5, ground := Ground.data }, { on := 2, ground := Ground.guard }], guard := some (2, true) }) (v := undef) [11, 12, 13] [] rfl rfl (by kernel_rfl) (by kernel_rfl) (by kernel_rfl) (by kernel_rfl) (by kernel_rfl) (by kernel_rfl) (by kernel_rfl) (fun _ _ _ h => h) (Or.inr ⟨by rfl, rfl⟩) ?_
                  try simp only [Act.put, List.setIfInBounds_toArray, List.set_cons_zero, List.set_cons_succ]
                  refine Reg.wpG_take (i := 7) (oi := { dst := some 78, op := Op.move (Operand.tmp 1), type := 26, pos := "law.go:128", after := #[{ on := 2, ground := Ground.guard }], guard := some (2, true) }) (v := undef) [9, 10, 11, 12, 13] [] rfl rfl (by kernel_rfl) (by kernel_rfl) (by kernel_rfl) (by kernel_rfl) (by kernel_rfl) (by kernel_rfl) (by kernel_rfl) (fun _ _ _ h => h) (Or.inr ⟨by rfl, rfl⟩) ?_
                  try simp only [Act.put, List.setIfInBounds_toArray, List.set_cons_zero, List.set_cons_succ]
                  refine Reg.wpG_take (i := 8) (oi := { dst := some 79, op := Op.move (Operand.tmp 9), type := 3, pos := "law.go:128", after := #[{ on := 2, ground := Ground.guard }], guard := some (2, true) }) (v := undef) [9, 10, 11, 12, 13] [] rfl rfl (by kernel_rfl) (by kernel_rfl) (by kernel_rfl) (by kernel_rfl) (by kernel_rfl) (by kernel_rfl) (by kernel_rfl) (fun _ _ _ h => h) (Or.inr ⟨by rfl, rfl⟩) ?_
                  try simp only [Act.put, List.setIfInBounds_toArray, List.set_cons_zero, List.set_cons_succ]
                  refine Reg.wpG_take (i := 9) (oi := { dst := some 80, op := Op.indexAddr 26 (Operand.tmp 78) (Operand.tmp 79), type := 0, pos := "law.go:128", after := #[{ on := 7, ground := Ground.data }, { on := 8, ground := Ground.data }, { on := 2, ground := Ground.guard }], guard := some (2, true) }) (v := undef) [10, 11, 12, 13] [] rfl rfl (by kernel_rfl) (by kernel_rfl) (by kernel_rfl) (by kernel_rfl) (by kernel_rfl) (by kernel_rfl) (by kernel_rfl) (fun _ _ _ h => h) (Or.inr ⟨by rfl, rfl⟩) ?_
                  try simp only [Act.put, List.setIfInBounds_toArray, List.set_cons_zero, List.set_cons_succ]
                  refine Reg.wpG_take (i := 10) (oi := { dst := some 81, op := Op.load 43 (Operand.tmp 80), type := 43, pos := "law.go:128", after := #[{ on := 9, ground := Ground.data }, { on := 2, ground := Ground.guard }], guard := some (2, true) }) (v := undef) [11, 12, 13] [] rfl rfl (by kernel_rfl) (by kernel_rfl) (by kernel_rfl) (by kernel_rfl) (by kernel_rfl) (by kernel_rfl) (by kernel_rfl) (fun _ _ _ h => h) (Or.inr ⟨by rfl, rfl⟩) ?_
                  try simp only [Act.put, List.setIfInBounds_toArray, List.set_cons_zero, List.set_cons_succ]
                  refine Reg.wpG_take (i := 11) (oi := { dst := some 82, op := Op.call { callee := Callee.value (Operand.func 27), args := #[Operand.tmp 77, Operand.tmp 81], argTypes := #[43, 43] }, type := 4, pos := "law.go:128", after := #[{ on := 6, ground := Ground.data }, { on := 10, ground := Ground.data }, { on := 2, ground := Ground.chain }, { on := 2, ground := Ground.guard }], guard := some (2, true) }) (v := undef) [12, 13] [] rfl rfl (by kernel_rfl) (by kernel_rfl) (by kernel_rfl) (by kernel_rfl) (by kernel_rfl) (by kernel_rfl) (by kernel_rfl) (fun _ _ _ h => h) (Or.inr ⟨by rfl, rfl⟩) ?_
                  try simp only [Act.put, List.setIfInBounds_toArray, List.set_cons_zero, List.set_cons_succ]
                  refine Reg.wpG_take (i := 12) (oi := { dst := some 83, op := Op.unOp UnOp.not 4 (Operand.tmp 82), type := 4, pos := "law.go:128", after := #[{ on := 11, ground := Ground.data }, { on := 2, ground := Ground.guard }], guard := some (2, true) }) (v := undef) [13] [] rfl rfl (by kernel_rfl) (by kernel_rfl) (by kernel_rfl) (by kernel_rfl) (by kernel_rfl) (by kernel_rfl) (by kernel_rfl) (fun _ _ _ h => h) (Or.inr ⟨by rfl, rfl⟩) ?_
                  try simp only [Act.put, List.setIfInBounds_toArray, List.set_cons_zero, List.set_cons_succ]
                  refine' Reg.wpG_take (i := 13) (oi := { dst := some 84, op := Op.pick (Operand.tmp 73) (Operand.tmp 83) (Operand.const (Value.bool false)), type := 4, pos := "law.go:128", after := #[{ on := 2, ground := Ground.data }, { on := 12, ground := Ground.data }], guard := none }) (v := _) [] [] rfl rfl (by kernel_rfl) (by kernel_rfl) (by kernel_rfl) (by kernel_rfl) (by kernel_rfl) (by kernel_rfl) (by kernel_rfl) (fun _ _ _ h => h) (Or.inl ⟨by rfl, Or.inl ?hy5⟩) ?rest5
                  case hy5 => (intro w' kk ss; have qc := CC.out _ (hr0.trans kk); have qd := CD.out _ (hr0.trans kk); go_simp; first | done | with_reducible rfl)
                  try simp only [Act.put, List.setIfInBounds_toArray, List.set_cons_zero, List.set_cons_succ]
                  refine Reg.wpG_done (by kernel_rfl) (fun we ke se => ?_) _
                  refine NoPanic.normal ?_
                  have hr0 := hr0.trans ke
                  clear ke
                  have TX := Lib.hid (Turn.mono (G' := hot cs (x + 1)) (Turn.since HT.out hr0) fun b hb => hot_next hb)
                  have HC0 := Lib.hid (fun q (hq : q < p) => show ∃ u, we.cell? ⟨b, o + q * 2, none⟩ = some u by
                    obtain ⟨b', o', hA', e', -⟩ := elR (HSE.out.since stR hr0) (i := q) (by rw [← HP.out]; exact hq)
                    cases hA'
                    exact ⟨_, e'⟩)
                  have HF0 := Lib.hid (FW.out we hr0)
                  have hC0 := CC.out we hr0
                  clear hr0
                  go_wp2
                  go_loopw [90] (fun i wr4 => ∃ (q : Nat), i = .int .i64 (q : Int) ∧ q ≤ p ∧ Hid (Turn (hot cs (x + 1)) w7 wr4) ∧ Hid (∀ q, q < p → ∃ u, wr4.cell? ⟨b, o + q * 2, none⟩ = some u) ∧ Hid (∀ q, wr4.frozen? ⟨b, q, none⟩ = false)) (fun i _ => p - (intOf i).toNat)
                  case atStart => exact ⟨0, rfl, Nat.zero_le _, TX.out, HC0.out, HF0.out⟩
                  case round =>
                    obtain ⟨q, rfl, hq, T4, HC4, HF4⟩ := hrel
                    have hr4 : wr.cell? ⟨g, x, none⟩ = some (.slice (some ⟨b, o, none⟩) p c) := by rw [(Turn.bx T4.out O7.out.row O7.out.hot_g).cell x]; exact HCS.out
                    by_cases hqp : q < p
                    · obtain ⟨u4, hu4⟩ := HC4.out q hqp
                      have hf4 := HF4.out (o + q * 2)
                      have HY := Lib.hid (hot_yes HCS.out (b := b) rfl)
                      go_wp2
                      go_roundw
                      case rel =>
                        refine ⟨q + 1, by go_num, by omega, Lib.hid (Turn.set T4.out (fun _ => HY.out) _), Lib.hid fun q' hq' => ?_, Lib.hid fun q' => ?_⟩
                        · obtain ⟨u', hu'⟩ := HC4.out q' hq'
                          exact Option.isSome_iff_exists.1 (setCell_some (by rw [hu']; rfl))
                        · rw [setCell_frozen]; exact HF4.out q'
                      case measure => simp [intOf]; omega
                    · obtain rfl : q = p := by omega
                      go_wp2
                      go_roundw
                      case rel => exact ⟨x + 1, by go_num, by omega, T4⟩
                      case measure => simp [intOf]; omega
                · rw [decide_eq_false hm]
                  have RG3 := Lib.hid (RG2.out hm)
                  clear RG2 EQ
                  go_wp2
                  have hr0 : Since wr wr.drew := Since.drew (Since.refl wr)
                  refine wp_region_noPanic ?_
                  refine Reg.wp_region_G (S := fun _ => True) (fun j => [].contains j) (by kernel_rfl) trivial ?_
                  refine' Reg.wpG_take (i := 0) (oi := { dst := some 71, op := Op.move (Operand.tmp 10), type := 4, pos := "law.go:128", after := #[], guard := none }) (v := _) [1, 2, 3, 4, 5, 6, 7, 8, 9, 10, 11, 12, 13] [] rfl rfl (by kernel_rfl) (by kernel_rfl) (by kernel_rfl) (by kernel_rfl) (by kernel_rfl) (by kernel_rfl) (by kernel_rfl) (fun _ _ _ h => h) (Or.inl ⟨by rfl, Or.inl ?hy7⟩) ?rest7
                  case hy7 => (intro w' kk ss; have qc := CC.out _ (hr0.trans kk); have qd := CD.out _ (hr0.trans kk); go_simp; first | done | with_reducible rfl)
                  try simp only [Act.put, List.setIfInBounds_toArray, List.set_cons_zero, List.set_cons_succ]
                  refine' Reg.wpG_take (i := 1) (oi := { dst := some 72, op := Op.unOp UnOp.not 4 (Operand.tmp 71), type := 4, pos := "law.go:128", after := #[{ on := 0, ground := Ground.data }], guard := none }) (v := _) [2, 3, 4, 5, 6, 7, 8, 9, 10, 11, 12, 13] [] rfl rfl (by kernel_rfl) (by kernel_rfl) (by kernel_rfl) (by kernel_rfl) (by kernel_rfl) (by kernel_rfl) (by kernel_rfl) (fun _ _ _ h => h) (Or.inl ⟨by rfl, Or.inl ?hy8⟩) ?rest8
                  case hy8 => (intro w' kk ss; have qc := CC.out _ (hr0.trans kk); have qd := CD.out _ (hr0.trans kk); go_simp; first | done | with_reducible rfl)
                  try simp only [Act.put, List.setIfInBounds_toArray, List.set_cons_zero, List.set_cons_succ]
                  refine' Reg.wpG_take (i := 2) (oi := { dst := some 73, op := Op.move (Operand.tmp 72), type := 4, pos := "law.go:128", after := #[{ on := 1, ground := Ground.data }], guard := none }) (v := _) [3, 4, 5, 6, 7, 8, 9, 10, 11, 12, 13] [] rfl rfl (by kernel_rfl) (by kernel_rfl) (by kernel_rfl) (by kernel_rfl) (by kernel_rfl) (by kernel_rfl) (by kernel_rfl) (fun _ _ _ h => h) (Or.inl ⟨by rfl, Or.inl ?hy9⟩) ?rest9
                  case hy9 => (intro w' kk ss; have qc := CC.out _ (hr0.trans kk); have qd := CD.out _ (hr0.trans kk); go_simp; first | done | with_reducible rfl)
                  try simp only [Act.put, List.setIfInBounds_toArray, List.set_cons_zero, List.set_cons_succ]
                  refine' Reg.wpG_take (i := 3) (oi := { dst := some 74, op := Op.move (Operand.tmp 7), type := 26, pos := "law.go:128", after := #[{ on := 2, ground := Ground.guard }], guard := some (2, true) }) (v := _) [5, 6, 11, 12, 13] [] rfl rfl (by kernel_rfl) (by kernel_rfl) (by kernel_rfl) (by kernel_rfl) (by kernel_rfl) (by kernel_rfl) (by kernel_rfl) (fun _ _ _ h => h) (Or.inl ⟨by rfl, Or.inl ?hy10⟩) ?rest10
                  case hy10 => (intro w' kk ss; have qc := CC.out _ (hr0.trans kk); have qd := CD.out _ (hr0.trans kk); go_simp; first | done | with_reducible rfl)
                  try simp only [Act.put, List.setIfInBounds_toArray, List.set_cons_zero, List.set_cons_succ]
                  refine' Reg.wpG_take (i := 4) (oi := { dst := some 75, op := Op.move (Operand.tmp 9), type := 3, pos := "law.go:128", after := #[{ on := 2, ground := Ground.guard }], guard := some (2, true) }) (v := _) [5, 6, 11, 12, 13] [] rfl rfl (by kernel_rfl) (by kernel_rfl) (by kernel_rfl) (by kernel_rfl) (by kernel_rfl) (by kernel_rfl) (by kernel_rfl) (fun _ _ _ h => h) (Or.inl ⟨by rfl, Or.inl ?hy11⟩) ?rest11
                  case hy11 => (intro w' kk ss; have qc := CC.out _ (hr0.trans kk); have qd := CD.out _ (hr0.trans kk); go_simp; first | done | with_reducible rfl)
                  try simp only [Act.put, List.setIfInBounds_toArray, List.set_cons_zero, List.set_cons_succ]
                  refine' Reg.wpG_take (i := 5) (oi := { dst := some 76, op := Op.indexAddr 26 (Operand.tmp 74) (Operand.tmp 75), type := 0, pos := "law.go:128", after := #[{ on := 3, ground := Ground.data }, { on := 4, ground := Ground.data }, { on := 2, ground := Ground.guard }], guard := some (2, true) }) (v := _) [6, 11, 12, 13] [] rfl rfl (by kernel_rfl) (by kernel_rfl) (by kernel_rfl) (by kernel_rfl) (by kernel_rfl) (by kernel_rfl) (by kernel_rfl) (fun _ _ _ h => h) (Or.inl ⟨by rfl, Or.inl ?hy12⟩) ?rest12
                  case hy12 => (intro w' kk ss; have qc := CC.out _ (hr0.trans kk); have qd := CD.out _ (hr0.trans kk); go_simp; first | done | with_reducible rfl)
                  try simp only [Act.put, List.setIfInBounds_toArray, List.set_cons_zero, List.set_cons_succ]
                  refine' Reg.wpG_take (i := 6) (oi := { dst := some 77, op := Op.load 43 (Operand.tmp 76), type := 43, pos := "law.go:128", after := #[{ on := 5, ground := Ground.data }, { on := 2, ground := Ground.guard }], guard := some (2, true) }) (v := _) [11, 12, 13] [] rfl rfl (by kernel_rfl) (by kernel_rfl) (by kernel_rfl) (by kernel_rfl) (by kernel_rfl) (by kernel_rfl) (by kernel_rfl) (fun _ _ _ h => h) (Or.inl ⟨by rfl, Or.inl ?hy13⟩) ?rest13
                  case hy13 => (intro w' kk ss; have qc := CC.out _ (hr0.trans kk); have qd := CD.out _ (hr0.trans kk); go_simp; first | done | with_reducible rfl)
                  try simp only [Act.put, List.setIfInBounds_toArray, List.set_cons_zero, List.set_cons_succ]
                  refine' Reg.wpG_take (i := 7) (oi := { dst := some 78, op := Op.move (Operand.tmp 1), type := 26, pos := "law.go:128", after := #[{ on := 2, ground := Ground.guard }], guard := some (2, true) }) (v := _) [9, 10, 11, 12, 13] [] rfl rfl (by kernel_rfl) (by kernel_rfl) (by kernel_rfl) (by kernel_rfl) (by kernel_rfl) (by kernel_rfl) (by kernel_rfl) (fun _ _ _ h => h) (Or.inl ⟨by rfl, Or.inl ?hy14⟩) ?rest14
                  case hy14 => (intro w' kk ss; have qc := CC.out _ (hr0.trans kk); have qd := CD.out _ (hr0.trans kk); go_simp; first | done | with_reducible rfl)
                  try simp only [Act.put, List.setIfInBounds_toArray, List.set_cons_zero, List.set_cons_succ]
                  refine' Reg.wpG_take (i := 8) (oi := { dst := some 79, op := Op.move (Operand.tmp 9), type := 3, pos := "law.go:128", after := #[{ on := 2, ground := Ground.guard }], guard := some (2, true) }) (v := _) [9, 10, 11, 12, 13] [] rfl rfl (by kernel_rfl) (by kernel_rfl) (by kernel_rfl) (by kernel_rfl) (by kernel_rfl) (by kernel_rfl) (by kernel_rfl) (fun _ _ _ h => h) (Or.inl ⟨by rfl, Or.inl ?hy15⟩) ?rest15
                  case hy15 => (intro w' kk ss; have qc := CC.out _ (hr0.trans kk); have qd := CD.out _ (hr0.trans kk); go_simp; first | done | with_reducible rfl)
                  try simp only [Act.put, List.setIfInBounds_toArray, List.set_cons_zero, List.set_cons_succ]
                  refine' Reg.wpG_take (i := 9) (oi := { dst := some 80, op := Op.indexAddr 26 (Operand.tmp 78) (Operand.tmp 79), type := 0, pos := "law.go:128", after := #[{ on := 7, ground := Ground.data }, { on := 8, ground := Ground.data }, { on := 2, ground := Ground.guard }], guard := some (2, true) }) (v := _) [10, 11, 12, 13] [] rfl rfl (by kernel_rfl) (by kernel_rfl) (by kernel_rfl) (by kernel_rfl) (by kernel_rfl) (by kernel_rfl) (by kernel_rfl) (fun _ _ _ h => h) (Or.inl ⟨by rfl, Or.inl ?hy16⟩) ?rest16
                  case hy16 => (intro w' kk ss; have qc := CC.out _ (hr0.trans kk); have qd := CD.out _ (hr0.trans kk); go_simp; first | done | with_reducible rfl)
                  try simp only [Act.put, List.setIfInBounds_toArray, List.set_cons_zero, List.set_cons_succ]
                  refine' Reg.wpG_take (i := 10) (oi := { dst := some 81, op := Op.load 43 (Operand.tmp 80), type := 43, pos := "law.go:128", after := #[{ on := 9, ground := Ground.data }, { on := 2, ground := Ground.guard }], guard := some (2, true) }) (v := _) [11, 12, 13] [] rfl rfl (by kernel_rfl) (by kernel_rfl) (by kernel_rfl) (by kernel_rfl) (by kernel_rfl) (by kernel_rfl) (by kernel_rfl) (fun _ _ _ h => h) (Or.inl ⟨by rfl, Or.inl ?hy17⟩) ?rest17
                  case hy17 => (intro w' kk ss; have qc := CC.out _ (hr0.trans kk); have qd := CD.out _ (hr0.trans kk); go_simp; first | done | with_reducible rfl)
                  try simp only [Act.put, List.setIfInBounds_toArray, List.set_cons_zero, List.set_cons_succ]
                  refine Reg.wpG_take (i := 11) (oi := { dst := some 82, op := Op.call { callee := Callee.value (Operand.func 27), args := #[Operand.tmp 77, Operand.tmp 81], argTypes := #[43, 43] }, type := 4, pos := "law.go:128", after := #[{ on := 6, ground := Ground.data }, { on := 10, ground := Ground.data }, { on := 2, ground := Ground.chain }, { on := 2, ground := Ground.guard }], guard := some (2, true) }) (v := .bool true) [12, 13] [] rfl rfl (by kernel_rfl) (by kernel_rfl) (by kernel_rfl) (by kernel_rfl) (by kernel_rfl) (by kernel_rfl) (by kernel_rfl) (fun _ _ _ h => h) (Or.inl ⟨by rfl, Or.inr ⟨27, #[.slice (some ⟨b, o, none⟩) p c, .slice Bd pz cd], fun w' kk ss => ⟨?_, ?_⟩⟩⟩) ?_
                  · (try dsimp only at ss); go_simp
                  · exact RG3.out w' (hr0.trans kk)
                  try simp only [Act.put, List.setIfInBounds_toArray, List.set_cons_zero, List.set_cons_succ]
                  refine' Reg.wpG_take (i := 12) (oi := { dst := some 83, op := Op.unOp UnOp.not 4 (Operand.tmp 82), type := 4, pos := "law.go:128", after := #[{ on := 11, ground := Ground.data }, { on := 2, ground := Ground.guard }], guard := some (2, true) }) (v := _) [13] [] rfl rfl (by kernel_rfl) (by kernel_rfl) (by kernel_rfl) (by kernel_rfl) (by kernel_rfl) (by kernel_rfl) (by kernel_rfl) (fun _ _ _ h => h) (Or.inl ⟨by rfl, Or.inl ?hy18⟩) ?rest18
                  case hy18 => (intro w' kk ss; have qc := CC.out _ (hr0.trans kk); have qd := CD.out _ (hr0.trans kk); go_simp; first | done | with_reducible rfl)
                  try simp only [Act.put, List.setIfInBounds_toArray, List.set_cons_zero, List.set_cons_succ]
                  refine' Reg.wpG_take (i := 13) (oi := { dst := some 84, op := Op.pick (Operand.tmp 73) (Operand.tmp 83) (Operand.const (Value.bool false)), type := 4, pos := "law.go:128", after := #[{ on := 2, ground := Ground.data }, { on := 12, ground := Ground.data }], guard := none }) (v := _) [] [] rfl rfl (by kernel_rfl) (by kernel_rfl) (by kernel_rfl) (by kernel_rfl) (by kernel_rfl) (by kernel_rfl) (by kernel_rfl) (fun _ _ _ h => h) (Or.inl ⟨by rfl, Or.inl ?hy19⟩) ?rest19
                  case hy19 => (intro w' kk ss; have qc := CC.out _ (hr0.trans kk); have qd := CD.out _ (hr0.trans kk); go_simp; first | done | with_reducible rfl)
                  try simp only [Act.put, List.setIfInBounds_toArray, List.set_cons_zero, List.set_cons_succ]
                  refine Reg.wpG_done (by kernel_rfl) (fun we ke se => ?_) _
                  refine NoPanic.normal ?_
                  have hr0 := hr0.trans ke
                  clear ke
                  have TX := Lib.hid (Turn.mono (G' := hot cs (x + 1)) (Turn.since HT.out hr0) fun b hb => hot_next hb)
                  have HC0 := Lib.hid (fun q (hq : q < p) => show ∃ u, we.cell? ⟨b, o + q * 2, none⟩ = some u by
                    obtain ⟨b', o', hA', e', -⟩ := elR (HSE.out.since stR hr0) (i := q) (by rw [← HP.out]; exact hq)
                    cases hA'
                    exact ⟨_, e'⟩)
                  have HF0 := Lib.hid (FW.out we hr0)
                  have hC0 := CC.out we hr0
                  clear hr0
                  go_wp2
                  go_loopw [90] (fun i wr4 => ∃ (q : Nat), i = .int .i64 (q : Int) ∧ q ≤ p ∧ Hid (Turn (hot cs (x + 1)) w7 wr4) ∧ Hid (∀ q, q < p → ∃ u, wr4.cell? ⟨b, o + q * 2, none⟩ = some u) ∧ Hid (∀ q, wr4.frozen? ⟨b, q, none⟩ = false)) (fun i _ => p - (intOf i).toNat)
                  case atStart => exact ⟨0, rfl, Nat.zero_le _, TX.out, HC0.out, HF0.out⟩
                  case round =>
                    obtain ⟨q, rfl, hq, T4, HC4, HF4⟩ := hrel
                    have hr4 : wr.cell? ⟨g, x, none⟩ = some (.slice (some ⟨b, o, none⟩) p c) := by rw [(Turn.bx T4.out O7.out.row O7.out.hot_g).cell x]; exact HCS.out
                    by_cases hqp : q < p
                    · obtain ⟨u4, hu4⟩ := HC4.out q hqp
                      have hf4 := HF4.out (o + q * 2)
                      have HY := Lib.hid (hot_yes HCS.out (b := b) rfl)
                      go_wp2
                      go_roundw
                      case rel =>
                        refine ⟨q + 1, by go_num, by omega, Lib.hid (Turn.set T4.out (fun _ => HY.out) _), Lib.hid fun q' hq' => ?_, Lib.hid fun q' => ?_⟩
                        · obtain ⟨u', hu'⟩ := HC4.out q' hq'
                          exact Option.isSome_iff_exists.1 (setCell_some (by rw [hu']; rfl))
                        · rw [setCell_frozen]; exact HF4.out q'
                      case measure => simp [intOf]; omega
                    · obtain rfl : q = p := by omega
                      go_wp2
                      go_roundw
                      case rel => exact ⟨x + 1, by go_num, by omega, T4⟩
                      case measure => simp [intOf]; omega
          · obtain rfl : x = k := by omega
            have TL := Lib.hid (LO.out x _ HT.out)
            have D9 := Lib.hid (sld_unveil (LD.out.since stD (TL.out.veil fun _ _ => rfl)))
            have W9 := Lib.hid (sld_unveil (LW.out.since stD (TL.out.veil fun _ _ => rfl)))
            have S9 := Lib.hid (LS.out x _ HT.out)
            go_wp2_with (go_at_call 19; (with_reducible refine (DM.out _ _ D9.out W9.out).mono ?_); rintro e w8 ⟨rfl, k8⟩; have K8 := Lib.hid k8; clear k8)
            go_ret
            exact ⟨rfl, S9.out.trans K8.out⟩

set_option maxRecDepth 100000 in
theorem lifted (os : Os) (started : os.Started) (H : Type) (enc : TypeId × Value → H) :
    ReturnsInHanded {} Try.checked os 7 .any (Rows.logicOtherSpec.pre6 enc Try.prog Try.f7 Rows.logicOtherRow.domain false) (Rows.logicOtherSpec.post enc Try.prog Try.f7 false true false false) := by
  refine returnsInHanded_of_change (C := Try.checked) own started (by kernel_rfl) Try.func7
    (ChangeSpec.witness6 (enc := enc) (C := Try.checked) false ⟨#[], #[.agg #[.int .i64 0, .slice none 0 0, .slice none 0 0, .int .i64 0], .slice none 0 0], []⟩ 8 (by kernel_rfl) (by kernel_rfl) (by kernel_rfl) (by kernel_rfl)) ?_
  intro W base args ds gs before hval0 hW hcnd _
  have hval : ∀ (j : Nat) t v, Try.f7.params[j]? = some t → args[j]? = some v → Value.okWide Try.prog W .any base t v := hval0
  have hW' := hW
  obtain ⟨p, q, hA0, hV, rfl, hfz, hnd⟩ := hW
  have hA : DataW.TrodAll enc Try.prog W 0 (fun _ => true) true Try.f7.params.toList args.toList ds p := hA0
  rw [Try.params7] at hA hval
  obtain ⟨v0, vs0, d0, ds0, p0, q0, hargs, rfl, rfl, h0, r0⟩ := trodAll_cons hA
  obtain ⟨v1, vs1, d1, ds1, p1, q1, rfl, rfl, rfl, h1, r1⟩ := trodAll_cons r0
  obtain ⟨rfl, rfl, rfl⟩ := trodAll_nil r1
  obtain rfl : args = #[v0, v1] := by cases args; simp_all
  obtain ⟨rfl, rfl⟩ := trodVars_none hV
  obtain ⟨k0k, X0, n0, xc0, Y0, m0, yc0, e0, rfl, z0, w0⟩ := Go.Proofs.Ytilgmkhcpmegjaa.Sn.con_in ⟨Try.underlying25, ⟨rfl, rfl, rfl, rfl⟩, ⟨by kernel_rfl, by kernel_rfl, by kernel_rfl, by kernel_rfl⟩, Try.underlying3, Try.underlying22, Try.underlying23, Try.underlying2, Try.underlying3, by kernel_rfl, Try.underlying2, by kernel_rfl⟩ (by kernel_rfl) (hval 0 25 v0 rfl rfl) h0
  have k0 := h0
  have lt0 : ∀ x ∈ p0, x.block < W.heap.size := by obtain ⟨m, hm⟩ := k0; exact DataW.trod_lt m _ _ _ hm
  obtain ⟨a1, len1, cap1, rfl⟩ := okWide_slice Try.underlying26 (hval 1 26 v1 rfl rfl)
  have k1 := h1
  have lt1 : ∀ x ∈ p1, x.block < W.heap.size := by obtain ⟨m, hm⟩ := k1; exact DataW.trod_lt m _ _ _ hm
  obtain ⟨z1, w1⟩ : ∃ zs, Go.Proofs.Ytilgmkhcpmegjaa.Tr.DomsIn W a1 len1 cap1 zs := by
    obtain ⟨fuel, hf⟩ := h1
    exact Go.Proofs.Ytilgmkhcpmegjaa.Tr.doms_in Try.underlying26 (by kernel_rfl) Try.underlying43 Try.underlying46 (by kernel_rfl) rfl rfl (by kernel_rfl) (by kernel_rfl) Try.underlying2 Try.underlying2 hf
  clear hA0 hval0
  refine (walk k0k X0 n0 xc0 Y0 m0 yc0 e0 z0 a1 len1 cap1 z1 W w0 w1).mono fun e W' ⟨he, bel⟩ => ?_
  subst he
  exact ⟨_, rfl, _, _, _, [], _, [], hW', trodAll_mk1 (shut_bool Try.underlying4 _), (trodAll_cons_mk (Below.trod laidOut (by kernel_rfl) (of_decide_eq_true (by kernel_rfl)) k0 bel lt0) (trodAll_cons_mk (Below.trod laidOut (by kernel_rfl) (of_decide_eq_true (by kernel_rfl)) k1 bel lt1) trodAll_mk0)), rfl, bel.frame _, fun h => by cases h⟩

theorem over : Rows.logicOtherRow.holds Try.pinned (OpenSpec.ofChange Rows.logicOtherSpec) :=
  OpenClaim.holds_of_wide 7 Try.f7 rfl rfl rfl rfl rfl rfl rfl ⟨rfl, rfl, rfl, rfl, rfl⟩ rfl rfl rfl rfl rfl (by kernel_rfl) Try.func7 (by kernel_rfl)
    (of_decide_eq_true (by kernel_rfl)) (by unfold Func.isWrapper; first | (rw [if_pos (by decide +kernel)]; kernel_rfl) | (rw [if_neg (by decide +kernel)]; exact ⟨rfl, rfl⟩))
    (fun os started H enc _ => lifted os started H enc)

/-- THE STATEMENT -/
theorem proved : Rows.LogicOtherSaid := over
#print axioms proved
end Go.Proofs.Ytilgmkhcpmegjaa.logicOther
