/- Layers 11, 14: the document's own Every, of one constraint of logic's. -/
import Derived.Test.YtilgmkhcpmegjaaQbl
namespace Go.Proofs.Ytilgmkhcpmegjaa.Ev
open Go.RowKit
set_option linter.unusedVariables false
set_option linter.unusedSimpArgs false
open Go.Proofs.Ytilgmkhcpmegjaa.Dig Go.Proofs.Ytilgmkhcpmegjaa.Lx Go.Proofs.Ytilgmkhcpmegjaa.Tk Go.Proofs.Ytilgmkhcpmegjaa.Ti Go.Proofs.Ytilgmkhcpmegjaa.Zs Go.Proofs.Ytilgmkhcpmegjaa.Tr Go.Proofs.Ytilgmkhcpmegjaa.Sn Go.Proofs.Ytilgmkhcpmegjaa.Ln
set_option maxRecDepth 20000 in
set_option maxHeartbeats 5000000 in
theorem every_anyG (vd vc : Value) (c : Cn) (ds : Ln.Ds) (w : World) (hd : Sl 1 QD w vd ds) (hc : Sl 4 QC w vc [c]) (hl : ds.length ≤ 1000) (hG : Gd ds) (hp : prodF ds ≤ 400) (hs : SzM ⟨ds, [c], 0, 0⟩) (hk6 : c.k = 11 ∨ c.k = 12 ∨ c.k = 13 ∨ c.k = 14) :
    Calls Try.prog 25 #[vd, vc] w (fun e w' => ∃ A m k, e = .returned (.slice A m k) ∧ Sl 1 QL w' (.slice A m k) ((allB vals ds).filter (holds c)) ∧ ((allB vals ds).filter (holds c)).length = m ∧ m ≤ 400 ∧ Since w w') := by
  obtain ⟨A, dc, rfl⟩ := hd.form
  obtain ⟨C, cc, rfl⟩ := hc.form
  have hcs := hs.2 c (by simp)
  have hin : [c].length = 1 := rfl
  obtain ⟨gc, oc, X, xc, Y, yc, rfl, hX, hA, c0, c1, c2, c3⟩ := elC hc (i := 0) (by simp)
  simp only [List.getElem_cons_zero, List.length_cons, List.length_nil, Nat.zero_mul, Nat.add_zero, Nat.zero_add] at c0 c1 c2 c3 hX hA ⊢
  have HC := Lib.hid (fun W (k : Since w W) => show W.cell? ⟨gc, oc, none⟩ = some (.int .i64 c.k) ∧ W.cell? ⟨gc, oc + 1, none⟩ = some (.slice X c.x.length xc) ∧ W.cell? ⟨gc, oc + 2, none⟩ = some (.slice Y c.a.length yc) ∧ W.cell? ⟨gc, oc + 3, none⟩ = some (.int .i64 c.c) from
    ⟨(k.cell _ (World.block_lt_of_cell? _ _ c0)).trans c0, (k.cell _ (World.block_lt_of_cell? _ _ c1)).trans c1, (k.cell _ (World.block_lt_of_cell? _ _ c2)).trans c2, (k.cell _ (World.block_lt_of_cell? _ _ c3)).trans c3⟩)
  have HO := Lib.hid (fun W (v : Value) (b : List Int) (k : Since w W) (hv : Sl 1 QI W v b) (hb : b.length ≤ 1000) => show Calls Try.prog 59 #[.agg #[.int .i64 c.k, .slice X c.x.length xc, .slice Y c.a.length yc, .int .i64 c.c], v] W (RetT (holds c b) W) from
    rholdsG_any _ v c b W ⟨_, _, rfl, hX.since stI k, hA.since stI k⟩ hv hcs.1 hcs.2 (by omega) hk6)
  have FI := Lib.hid (fun W (k : Since w W) => first_any _ ds W (hd.since stD k) hl hG)
  have AF := Lib.hid (fun W (v : Value) (b : List Int) (k : Since w W) (hv : Sl 1 QI W v b) (hb : Wi ds b) => after_any _ v ds b W (hd.since stD k) hv hl hG hb)
  have RU := Lib.hid (all_run hG)
  have TL := Lib.hid (show (allB vals ds).length ≤ 400 by have := all_len hG; omega)
  have WI := Lib.hid (fun b (hb : b ∈ allB vals ds) => all_wi hG hb)
  obtain ⟨n, hn⟩ : ∃ n, n = List.length ds := ⟨_, rfl⟩
  rw [← hn] at hd hl FI AF ⊢
  have HN := Lib.hid hn
  have HD := Lib.hid hd
  have HG := Lib.hid hG
  generalize c.k = ck at *
  generalize c.c = cc9 at *
  generalize c.x.length = nx at *
  generalize c.a.length = ny at *
  clear hd hc hG hp hs hk6 hcs hin c0 c1 c2 c3 hX hA hn
  go_enter Try.func25, Try.ntmps25
  go_wp2
  go_loopw [6] (fun i wr => ∃ (k : Nat), i = .int .i64 (k : Int) ∧ k ≤ n ∧ Hid (Since w wr)) (fun i _ => n - (intOf i).toNat)
  case atStart => exact ⟨0, rfl, Nat.zero_le _, Lib.hid (Since.refl _)⟩
  case round =>
    obtain ⟨k, rfl, hk, HW0⟩ := hrel
    by_cases hkn : k < n
    · have hkl : k < ds.length := by have := HN.out; omega
      obtain ⟨gd, od, B, cB, rfl, hS, ed⟩ := elD (HD.out.since stD HW0.out) hkl
      have hpz : 0 < ds[k].length := List.length_pos_iff.2 (HG.out _ (List.getElem_mem hkl)).2
      generalize ds[k].length = dl at *
      have hz : ¬ dl = 0 := by omega
      have hz2 : ((dl : Int) == 0) = false := beq_eq_false_iff_ne.2 (by omega)
      clear hS hkl
      go_wp2
      go_roundw
      case rel => exact ⟨k + 1, by go_num, by omega, HW0⟩
      case measure => simp [intOf]; omega
    · obtain rfl : k = n := by omega
      go_wp2_with (go_at_call 77; (with_reducible refine (FI.out _ HW0.out).mono ?_); rintro e w1 ⟨A1, c1, rfl, h1⟩; have H1 := Lib.hid (rq_from HW0.out h1); clear h1)
      have RU2 := Lib.hid (show ∃ T, Run (nextB ds) (lows ds) T ∧ T.length ≤ 400 ∧ (∀ b ∈ T, Wi ds b) ∧ T = allB vals ds from ⟨_, RU.out, TL.out, WI.out, rfl⟩)
      obtain ⟨T0, hT0⟩ := RU2.out
      have HT0 := Lib.hid (show T0.filter (holds c) = (allB vals ds).filter (holds c) by rw [hT0.2.2.2])
      obtain ⟨FF, hFF⟩ : ∃ F, F = (allB vals ds).filter (holds c) := ⟨_, rfl⟩
      rw [← hFF] at HT0
      have HFF := Lib.hid hFF
      clear hFF
      go_loopg [5, 7, 8] (T0.length) (fun K s a ok wr => ∃ (O : Option Addr) (m oc : Nat) (B : Option Addr) (bc : Nat) (okb : Bool) (al : List Int) (LL T : List (List Int)), s = .slice O m oc ∧ a = .slice B k bc ∧ ok = .bool okb ∧ m ≤ 400 ∧ K = okI okb T.length ∧ Hid (RqL w wr (.slice O m oc) LL) ∧ Hid (LL.length = m) ∧ Hid (LL ++ (if okb then T.filter (holds c) else []) = FF) ∧ Hid (∀ b, (Value.slice B k bc).ownBlock = some b → b < wr.heap.size ∧ (Value.slice O m oc).ownBlock ≠ some b) ∧ Hid (okb = true → Sl 1 QI wr (.slice B k bc) al ∧ Wi ds al ∧ Run (nextB ds) al T ∧ m + T.length ≤ 400 ∧ ∀ b ∈ T, Wi ds b))
      case atStart =>
        refine ⟨none, 0, 0, A1, c1, true, lows ds, [], T0, rfl, rfl, rfl, by omega, rfl, Lib.hid (RqL.nil H1.out.s), Lib.hid rfl, Lib.hid (by simpa using HT0.out), Lib.hid (fun b hb => ⟨(H1.out.lt b hb).2, by simp [Value.ownBlock]⟩), Lib.hid fun _ => ⟨H1.out.sl, hT0.2.2.1 _ (run_mem hT0.1).1, hT0.1, by have := hT0.2.1; omega, hT0.2.2.1⟩⟩
      case round =>
        obtain ⟨O, m, oc2, B, bc, okb, al, LL, T, rfl, rfl, rfl, hm, hK, HL, HLM, HH, HB, HOK⟩ := hrel
        cases okb with
        | false =>
          go_wp2
          go_ret
          have hE : LL = FF := by have := HH.out; simpa using this
          rw [← HFF.out, ← hE]
          exact ⟨O, m, oc2, rfl, HL.out.sl, HLM.out, hm, HL.out.s⟩
        | true =>
          obtain ⟨k1, k2, k3, k4, k5⟩ := HOK.out rfl
          obtain ⟨hT1, hT2⟩ := run_mem k3
          have hkT : gk = T.length := hK
          subst hkT
          have HS := Lib.hid k1
          have HWI := Lib.hid k2
          have HRUN := Lib.hid k3
          have HM := Lib.hid k4
          have HT := Lib.hid k5
          have hal : al.length = k := by rw [k2.1]; exact HN.out.symm
          have HO1 := Lib.hid (fun W (kk : Since wr W) => HO.out W (.slice B k bc) al (HL.out.s.trans kk) (k1.since stI kk) (by omega))
          have AFX := Lib.hid (fun W (kk : Since w W) (hq : Sl 1 QI W (.slice B k bc) al) => AF.out W (.slice B k bc) al kk hq k2)
          obtain ⟨hb, hhb⟩ : ∃ b, b = holds c al := ⟨_, rfl⟩
          have HHA := Lib.hid (fun (T' : List (List Int)) => show (al :: T').filter (holds c) = if hb then al :: T'.filter (holds c) else T'.filter (holds c) by
            rw [List.filter_cons, ← hhb])
          rw [← hhb] at HO1
          clear k1 k2 k3 k4 k5 hK HOK hal hhb hT1
          go_wp2
          go_loopw [9, 10] (fun h i wr2 => ((i = .int .i64 0 ∧ h = .bool true) ∨ (i = .int .i64 1 ∧ h = .bool hb)) ∧ Hid (Since wr wr2)) (fun _ i _ => 1 - (intOf i).toNat)
          case atStart => exact ⟨.inl ⟨rfl, rfl⟩, Lib.hid (Since.refl _)⟩
          case round =>
            obtain ⟨hi, HSS⟩ := hrel
            rcases hi with ⟨rfl, rfl⟩ | ⟨rfl, rfl⟩
            · obtain ⟨x0, x1, x2, x3⟩ := HC.out _ (HL.out.s.trans HSS.out)
              go_wp2_with (go_at_call 59; (with_reducible refine (HO1.out _ HSS.out).mono ?_); rintro e w2 ⟨rfl, k2⟩; have K2 := Lib.hid (HSS.out.trans k2); clear k2)
              go_roundw
              case rel => exact ⟨.inr ⟨by go_num, rfl⟩, K2⟩
              case measure => simp [intOf]
            · have HL2 := Lib.hid (HL.out.since HSS.out)
              obtain ⟨R, hR⟩ : ∃ R, R = nextB ds al := ⟨_, rfl⟩
              have HR := Lib.hid hR
              rw [← hR] at AFX
              clear hR
              have BN := Lib.hid (Bx.fresh wr #[.slice B k bc] 23)
              cases hb with
              | true =>
                have hl9 : LL.length ≤ 1000000 := by have := HLM.out; omega
                have HQ := Lib.hid (show QEl (.slice O m oc2) (wr.alloc (.cells #[.slice B k bc] 23)) al [.slice B k bc] from ⟨_, rfl, HS.out.since stI (HSS.out.trans (since_alloc _ _)), fun b hb => ⟨by have := (HB.out b hb).1; have := HSS.out.size; simp; omega, (HB.out b hb).2⟩⟩)
                cases R with
                | none =>
                  simp only [Option.isSome_none, Option.isSome_some] at AFX
                  go_wp2_with (first | (at_builtin; refine RqL.app (HL2.out.since (since_alloc _ _)) hl9 al (.slice B k bc) HQ.out rfl wr.heap.size 1 (BN.out.cell 0) (by rfl) _ _ rfl rfl rfl ?_; rw [HLM.out]; intro A3 c3 w3 h3 q3; have H3 := Lib.hid h3; have Q3 := Lib.hid (QEl.read q3); clear h3 q3) | (go_at_call 78; (with_reducible refine (AFX.out _ (RqL.s H3.out) Q3.out).mono ?_); rintro e w4 ⟨A4, c4, rfl, hb4, hr4, k4⟩; have H4 := Lib.hid (H3.out.since k4); have LTR := Lib.hid (rq_lt H3.out); have HB4 := Lib.hid hb4; have HR4 := Lib.hid hr4; clear k4 hb4 hr4))
                  have hTn := run_last HRUN.out HR.out.symm
                  have hm4 := HM.out
                  go_roundg 0
                  case measure => omega
                  case rel =>
                    refine ⟨A3, m + 1, c3, A4, c4, false, al, LL ++ [al], T, rfl, rfl, rfl, by omega, rfl, H4, Lib.hid (by rw [List.length_append, HLM.out]; rfl), Lib.hid (by have h1 := HH.out; have h2 := HHA.out []; simp only [if_true, Bool.false_eq_true, if_false] at h1 h2 ⊢; rw [hTn] at h1; rw [h2] at h1; simpa using h1), Lib.hid (fun b hb => ⟨(HB4.out b hb).2, fun e => by have := LTR.out b e; have := (HB4.out b hb).1; omega⟩), Lib.hid fun h => by cases h⟩
                | some b =>
                  simp only [Option.isSome_none, Option.isSome_some] at AFX
                  go_wp2_with (first | (at_builtin; refine RqL.app (HL2.out.since (since_alloc _ _)) hl9 al (.slice B k bc) HQ.out rfl wr.heap.size 1 (BN.out.cell 0) (by rfl) _ _ rfl rfl rfl ?_; rw [HLM.out]; intro A3 c3 w3 h3 q3; have H3 := Lib.hid h3; have Q3 := Lib.hid (QEl.read q3); clear h3 q3) | (go_at_call 78; (with_reducible refine (AFX.out _ (RqL.s H3.out) Q3.out).mono ?_); rintro e w4 ⟨A4, c4, rfl, hb4, hr4, k4⟩; have H4 := Lib.hid (H3.out.since k4); have LTR := Lib.hid (rq_lt H3.out); have HB4 := Lib.hid hb4; have HR4 := Lib.hid hr4; clear k4 hb4 hr4))
                  obtain ⟨T', hT', hr'⟩ := run_step HRUN.out HR.out.symm
                  subst hT'
                  have hlT : (al :: T').length = T'.length + 1 := rfl
                  have hm4 := HM.out
                  go_roundg (T'.length)
                  case measure => omega
                  case rel =>
                    refine ⟨A3, m + 1, c3, A4, c4, true, b, LL ++ [al], T', rfl, rfl, rfl, by omega, rfl, H4, Lib.hid (by rw [List.length_append, HLM.out]; rfl), Lib.hid (by have h1 := HH.out; have h2 := HHA.out T'; simp only [if_true, Bool.false_eq_true, if_false] at h1 h2 ⊢; rw [h2] at h1; simpa using h1), Lib.hid (fun b hb => ⟨(HB4.out b hb).2, fun e => by have := LTR.out b e; have := (HB4.out b hb).1; omega⟩), Lib.hid fun _ => ⟨HR4.out b rfl, HT.out b (List.mem_cons_of_mem _ (run_mem hr').1), hr', by omega, fun x hx => HT.out x (List.mem_cons_of_mem _ hx)⟩⟩
              | false =>
                cases R with
                | none =>
                  simp only [Option.isSome_none, Option.isSome_some] at AFX
                  go_wp2_with (first | (go_at_call 78; (with_reducible refine (AFX.out _ (RqL.s HL2.out) (HS.out.since stI HSS.out)).mono ?_); rintro e w4 ⟨A4, c4, rfl, hb4, hr4, k4⟩; have H4 := Lib.hid (HL2.out.since k4); have LTR := Lib.hid (rq_lt HL2.out); have HB4 := Lib.hid hb4; have HR4 := Lib.hid hr4; clear k4 hb4 hr4))
                  have hTn := run_last HRUN.out HR.out.symm
                  have hm4 := HM.out
                  go_roundg 0
                  case measure => omega
                  case rel =>
                    refine ⟨O, m, oc2, A4, c4, false, al, LL, T, rfl, rfl, rfl, by omega, rfl, H4, HLM, Lib.hid (by have h1 := HH.out; have h2 := HHA.out []; simp only [if_true, Bool.false_eq_true, if_false] at h1 h2 ⊢; rw [hTn] at h1; rw [h2] at h1; simpa using h1), Lib.hid (fun b hb => ⟨(HB4.out b hb).2, fun e => by have := LTR.out b e; have := (HB4.out b hb).1; omega⟩), Lib.hid fun h => by cases h⟩
                | some b =>
                  simp only [Option.isSome_none, Option.isSome_some] at AFX
                  go_wp2_with (first | (go_at_call 78; (with_reducible refine (AFX.out _ (RqL.s HL2.out) (HS.out.since stI HSS.out)).mono ?_); rintro e w4 ⟨A4, c4, rfl, hb4, hr4, k4⟩; have H4 := Lib.hid (HL2.out.since k4); have LTR := Lib.hid (rq_lt HL2.out); have HB4 := Lib.hid hb4; have HR4 := Lib.hid hr4; clear k4 hb4 hr4))
                  obtain ⟨T', hT', hr'⟩ := run_step HRUN.out HR.out.symm
                  subst hT'
                  have hlT : (al :: T').length = T'.length + 1 := rfl
                  have hm4 := HM.out
                  go_roundg (T'.length)
                  case measure => omega
                  case rel =>
                    refine ⟨O, m, oc2, A4, c4, true, b, LL, T', rfl, rfl, rfl, by omega, rfl, H4, HLM, Lib.hid (by have h1 := HH.out; have h2 := HHA.out T'; simp only [if_true, Bool.false_eq_true, if_false] at h1 h2 ⊢; rw [h2] at h1; simpa using h1), Lib.hid (fun b hb => ⟨(HB4.out b hb).2, fun e => by have := LTR.out b e; have := (HB4.out b hb).1; omega⟩), Lib.hid fun _ => ⟨HR4.out b rfl, HT.out b (List.mem_cons_of_mem _ (run_mem hr').1), hr', by omega, fun x hx => HT.out x (List.mem_cons_of_mem _ hx)⟩⟩
theorem every_someG (vd vc : Value) (c : Cn) (ds : Ln.Ds) (w : World) (hd : Sl 1 QD w vd ds) (hc : Sl 4 QC w vc [c]) (hl : ds.length ≤ 1000) (hG : Gd ds) (hp : prodF ds ≤ 400) (hs : SzM ⟨ds, [c], 0, 0⟩) (hk6 : c.k = 11 ∨ c.k = 12 ∨ c.k = 13 ∨ c.k = 14) :
    Calls Try.prog 25 #[vd, vc] w (fun e w' => ∃ A m k LL, e = .returned (.slice A m k) ∧ Sl 1 QL w' (.slice A m k) LL ∧ LL.length = m ∧ (∀ b ∈ LL, Wi ds b ∧ holds c b = true) ∧ m ≤ 400 ∧ Since w w') :=
  (every_anyG vd vc c ds w hd hc hl hG hp hs hk6).mono fun e w' ⟨A, m, k, h1, h2, h3, h4, h5⟩ => ⟨A, m, k, _, h1, h2, h3, (fun b hb => ⟨all_wi hG (List.mem_filter.1 hb).1, (List.mem_filter.1 hb).2⟩), h4, h5⟩
end Go.Proofs.Ytilgmkhcpmegjaa.Ev
