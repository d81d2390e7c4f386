/-
  For all domains and acts: the law TrailLess returns true (but for Pop no domain gets a value, and none is without one; only those that changed are told, and all of them). No condition.
-/
import Derived.Test.YtnojfeffmbdpmaaRows
import Derived.WalkKit
import Derived.ProofKit
import Derived.OpenShut
import Derived.ShutString
import Derived.ChangeOld
import Derived.Below
import Derived.Test.YtnojfeffmbdpmaaVt
namespace Go.Proofs.Ytnojfeffmbdpmaa.trailLess
open Go.ChangeShapes Go.WideShapes Go.ChangeAt Go.RowKit
open Go.ChangeMaps (open_string shut_string)
open Go.Proofs.Ytnojfeffmbdpmaa.Dig Go.Proofs.Ytnojfeffmbdpmaa.Zs Go.Proofs.Ytnojfeffmbdpmaa.Tr
open Go.Proofs.Ytnojfeffmbdpmaa.Ti (Sl QR stR)
set_option linter.unusedVariables false

theorem own : ownKnob Try.prog.godebug = none := by kernel_rfl
theorem laidOut : laidOutB Try.prog = true := by kernel_rfl

/-- WHAT THE WALK IS TOLD OF A SLICE OF INTEGERS THAT CAME IN: it is nil; or it leads to a row of 'cap' cells, the numbers 'zs' (the first 'len' are its elements, the rest its spare room), each fitting its kind. -/
def IsRow (k : IntKind) (w : World) (a : Option Addr) (len cap : Nat) (zs : List Int) : Prop :=
  (a = none ∧ len = 0 ∧ cap = 0 ∧ zs = []) ∨
  ∃ x, a = some x ∧ len ≤ cap ∧ cap ≤ maxLen ∧ zs.length = cap ∧ (∀ i, i < zs.length → w.cell? (x.add i) = some (.int k (zs.getD i 0))) ∧ ∀ n ∈ zs, (Lit.int k n).wf = true

set_option maxRecDepth 100000 in
set_option maxHeartbeats 40000000 in
theorem walk (a0 : Option Addr) (len0 cap0 : Nat) (z0 : Go.Proofs.Ytnojfeffmbdpmaa.Tr.Ds) (a1 : Option Addr) (len1 cap1 : Nat) (z1 : List Go.Proofs.Ytnojfeffmbdpmaa.Tr.Ac) (w : World) (w0 : Go.Proofs.Ytnojfeffmbdpmaa.Tr.DomsIn w a0 len0 cap0 z0) (w1 : Go.Proofs.Ytnojfeffmbdpmaa.Tr.ActsIn w a1 len1 cap1 z1) :
    Calls Try.prog 5 #[.slice a0 len0 cap0, .slice a1 len1 cap1] w fun e w' => e = .returned (.bool true) ∧ Since w w' := by
  obtain ⟨hn0, hS0, hB0, hL0⟩ := w0
  obtain ⟨hn1, hS1, hB1, hL1⟩ := w1
  have AL := Lib.hid (alive_any w)
  have FI := Lib.hid (fun R (hR : fitsD z0 = R) W (kk : Since w W) => by have := fits_any _ z0 W (hS0.since stD kk) (by unfold maxLen at hL0; omega); rw [hR] at this; exact this)
  cases hf : fitsD z0 with
  | false =>
    have FI1 := Lib.hid (FI.out _ hf)
    clear FI hf hS0 hB0 hL0 hS1 hB1 hL1 hn0 hn1
    go_enter Try.func5, Try.ntmps5
    go_wp2_with (first
      | (go_at_call 7; (with_reducible refine (AL.out).mono ?_); rintro e w1 ⟨rfl, k1⟩)
      | (go_at_call 8; (with_reducible refine (FI1.out _ k1).mono ?_); rintro e w2 ⟨rfl, k2⟩))
    go_ret
    exact ⟨rfl, k1.trans k2⟩
  | true =>
    have FI1 := Lib.hid (FI.out _ hf)
    obtain ⟨hbd, hlz⟩ := fitsD_bd hf hB0
    have NW := Lib.hid (fun (hr : rightD z0 = false) W (kk : Since w W) => new_no (hS0.since stD kk) hlz hbd hr)
    have NY := Lib.hid (fun (hr : rightD z0 = true) W (kk : Since w W) => new_yes (hS0.since stD kk) hlz hbd hr)
    have RR := Lib.hid (fun R (hr : rightD z0 = R) W (kk : Since w W) => by have := rrightD_any _ z0 W (hS0.since stD kk) hlz hbd; rw [hr] at this; exact this)
    cases hr : rightD z0 with
    | false =>
      have NW1 := Lib.hid (NW.out hr)
      have RR1 := Lib.hid (RR.out _ hr)
      clear NW NY RR hr FI hf hS0 hB0 hL0 hS1 hB1 hL1 hn0 hn1 hbd hlz
      go_enter Try.func5, Try.ntmps5
      go_wp2_with (first
        | (go_at_call 7; (with_reducible refine (AL.out).mono ?_); rintro e w1 ⟨rfl, k1⟩)
        | (go_at_call 8; (with_reducible refine (FI1.out _ k1).mono ?_); rintro e w2 ⟨rfl, k2⟩)
        | (go_at_call 9; (with_reducible refine (NW1.out _ (k1.trans k2)).mono ?_); rintro e w3 ⟨rfl, k3⟩)
        | (go_at_call 10; (with_reducible refine (RR1.out _ ((k1.trans k2).trans k3)).mono ?_); rintro e w4 ⟨rfl, k4⟩))
      go_ret
      exact ⟨rfl, ((k1.trans k2).trans k3).trans k4⟩
    | true =>
      have NY1 := Lib.hid (NY.out hr)
      have H1 := Lib.hid hS1
      have N1 := Lib.hid hn1
      have B1 := Lib.hid hB1
      have hm1 : len1 ≤ 9223372036854775807 := by rw [← hn1]; exact hL1
      clear NW NY RR hr FI hf hS0 hB0 hL0 hS1 hB1 hL1 hn0 hn1 hbd hlz
      go_enter Try.func5, Try.ntmps5
      go_wp2_with (first
        | (go_at_call 7; (with_reducible refine (AL.out).mono ?_); rintro e w1 ⟨rfl, k1⟩)
        | (go_at_call 8; (with_reducible refine (FI1.out _ k1).mono ?_); rintro e w2 ⟨rfl, k2⟩)
        | (go_at_call 9; (with_reducible refine (NY1.out _ (k1.trans k2)).mono ?_); rintro e w3 ⟨b, G0, rfl, l3⟩; have L3 := Lib.hid l3; clear l3))
      have K2 := Lib.hid (k1.trans k2)
      clear AL FI1 NY1 k1 k2
      go_loopw [6] (fun i wr => ∃ (k : Nat) (G : Nat → Bool) (N : Nat) (s : Sto), i = .int .i64 (k : Int) ∧ k ≤ len1 ∧ k ≤ 80 ∧ N ≤ 2 * k ∧ Hid (Live w2 G N wr b s)) (fun i _ => 80 - (intOf i).toNat)
      case atStart => exact ⟨0, G0, 0, _, rfl, Nat.zero_le _, Nat.zero_le _, Nat.le_refl _, L3.out⟩
      case round =>
        obtain ⟨k, G, N, s, rfl, hk, hk80, hN, HL⟩ := hrel
        obtain ⟨wo, hwo⟩ : ∃ wo, wo = wr := ⟨_, rfl⟩
        subst hwo
        by_cases hc : k < len1 ∧ k < 80
        · obtain ⟨hc1, hc2⟩ := hc
          have hkl : k < z1.length := by have := N1.out; omega
          obtain ⟨g, o, B, m, d, rfl, hm, hSd, e0, e1, e2⟩ := elA H1.out hkl
          have hbd := B1.out _ (List.getElem_mem hkl)
          generalize z1[k] = y at *
          obtain ⟨kk, xx, dd⟩ := y
          simp only at hm hSd e0 e1 e2 hbd
          obtain ⟨hb1, hb2, hb3, hb4⟩ := hbd
          have up := K2.out.trans HL.out.k
          have f0 := (up.cell _ (World.block_lt_of_cell? _ _ e0)).trans e0
          have f1 := (up.cell _ (World.block_lt_of_cell? _ _ e1)).trans e1
          have f2 := (up.cell _ (World.block_lt_of_cell? _ _ e2)).trans e2
          clear e0 e1 e2 up
          subst hm
          have HSD := Lib.hid hSd
          have UPW := Lib.hid (K2.out.trans HL.out.k)
          have hb0 : 0 ≤ kk := hb1.1
          clear hSd hb1 hb2 hb4 hkl
          obtain ⟨nD, hnD⟩ : ∃ n, s.D.length = n := ⟨_, rfl⟩
          have HND := Lib.hid hnD
          obtain ⟨s1, hs1⟩ : ∃ s1 : Sto, s1 = ⟨s.D, s.W, List.replicate s.D.length false⟩ := ⟨_, rfl⟩
          have CE := Lib.hid (show changedD s = (s1, told 0 s.F) from hs1 ▸ changed_eta s)
          have HD1 := Lib.hid (show s1.D = s.D from by rw [hs1])
          have HF1 := Lib.hid (show s1.F = List.replicate s1.D.length false from by rw [hs1])
          have HND1 := Lib.hid (show s1.D.length = nD from by rw [hs1]; exact hnD)
          clear hs1 hnD
          obtain ⟨tl, htl⟩ : ∃ n, (told 0 s.F).length = n := ⟨_, rfl⟩
          have HTL := Lib.hid htl
          clear htl
          obtain ⟨s2, ok, ze, hne⟩ : ∃ s2 ok ze, narrowD s1 xx dd = (s2, ok, ze) := ⟨_, _, _, rfl⟩
          have NE := Lib.hid hne
          have HND2 := Lib.hid (show s2.D.length = nD by have h1 := narrowD_len s1 xx dd; rw [hne] at h1; exact h1.trans HND1.out)
          clear hne
          by_cases hgo : kk % 4 = 0 ∧ dd.length ≤ 300
          · obtain ⟨hg1, hg2⟩ := hgo
            have hg3 : kk.tmod 4 = 0 := by rw [Int.tmod_eq_emod_of_nonneg hb0]; exact hg1
            have BA := Lib.hid (show Bx (veil G (wo.alloc (.cells #[.int .u8 kk, .int .i64 xx, .slice B dd.length d] 35))) wo.heap.size #[.int .u8 kk, .int .i64 xx, .slice B dd.length d] 35 from by
              unfold Bx
              rw [veil_off _ (off_new HL.out.g (Since.refl wo) (Nat.le_refl _))]
              exact Bx.fresh wo _ _)
            go_wp2_with (first
              | (go_at_call 20; (with_reducible refine (changed_at (HL.out.since (since_alloc _ _)) (by omega) CE.out HTL.out).mono ?_); rintro e w5 ⟨Ac, cc, rfl, -, l5, v5⟩; have L5 := Lib.hid l5; have BA5 := Lib.hid (BA.out.since v5); clear l5 v5)
              | (go_at_call 22; (with_reducible refine (all_at L5.out HND1.out).mono ?_); rintro e w6 ⟨Aw, cw, rfl, hw6, k6⟩; have HW6 := Lib.hid hw6; have BA6 := Lib.hid (BA5.out.since (Since.veil k6 G)); obtain ⟨x60, x61, x62⟩ := bx3 BA6.out; have y61 := (veil_cell x61).1; have y62 := (veil_cell x62).1; clear hw6 x60 x61 x62)
              | (go_at_call 12; (with_reducible refine (narrow_at (L5.out.since k6) (by omega) (HSD.out.since stR (K2.out.trans (L5.out.since k6).k)) hb3 (by omega) NE.out).mono ?_); rintro e w7 ⟨rfl, l7, v7⟩; have L7 := Lib.hid l7; have BA7 := Lib.hid (BA6.out.since v7); have HW7 := Lib.hid (HW6.out.since stD v7); clear l7 v7)
              | (go_at_call 22; (with_reducible refine (all_at L7.out HND2.out).mono ?_); rintro e w8 ⟨An, cn, rfl, hn8, k8⟩; have HN8 := Lib.hid hn8; have BA8 := Lib.hid (BA7.out.since (Since.veil k8 G)); have HW8 := Lib.hid (HW7.out.since stD (Since.veil k8 G)); clear hn8))
            have OK1 := Lib.hid L5.out.t.ok
            have OK2 := Lib.hid L7.out.t.ok
            have hn64 : nD ≤ 64 := by have h1 := OK1.out.n; have h2 := HND1.out; omega
            clear k6
            go_loopw [67] (fun i wq => ∃ j : Nat, i = .int .i64 (j : Int) ∧ j ≤ nD ∧ Hid (Since w8 wq)) (fun i _ => nD - (intOf i).toNat)
            case atStart => exact ⟨0, rfl, Nat.zero_le _, Since.refl _⟩
            case round =>
              obtain ⟨j, rfl, hj, HWI⟩ := hrel
              as_aux_lemma =>
                by_cases hjn : j < nD
                · have hj2 : j < s2.D.length := by have := HND2.out; omega
                  have hj1 : j < s1.D.length := by have := HND1.out; omega
                  obtain ⟨gn, on, Bn, dn, rfl, Sn, e0⟩ := elD HN8.out hj2
                  obtain ⟨gw, ow, Bw, dw, rfl, Sw, e1⟩ := elD HW8.out hj1
                  have E0 := (veil_cell e0).1
                  have E1 := (veil_cell e1).1
                  have E2 := (veil_cell (bx3 BA8.out).2.1).1
                  have g1 := List.getElem?_eq_getElem hj1
                  have g2 := List.getElem?_eq_getElem hj2
                  generalize s2.D[j] = yn at *
                  generalize s1.D[j] = yw at *
                  obtain ⟨r1, r2, r3, r4, r5⟩ := narrow_each OK1.out HF1.out NE.out g1 g2 OK2.out
                  have HC := Lib.hid (fun W (kk : Since wr W) => (show W.cell? ⟨gn, on + j, none⟩ = _ ∧ W.cell? ⟨gw, ow + j, none⟩ = _ ∧ W.cell? ⟨wo.heap.size, 1, none⟩ = _ from ⟨((HWI.out.trans kk).cell _ (World.block_lt_of_cell? _ _ E0)).trans E0, ((HWI.out.trans kk).cell _ (World.block_lt_of_cell? _ _ E1)).trans E1, ((HWI.out.trans kk).cell _ (World.block_lt_of_cell? _ _ E2)).trans E2⟩))
                  have RT := Lib.hid (fun W (kk : Since wr W) => right_at ((sl_unveil Sn).since stR (HWI.out.trans kk)) (right_len r1) (right_bd' r1) r1 W (Since.refl W))
                  have MT := Lib.hid (fun W (kk : Since wr W) => meet_any _ _ yn yw W ((sl_unveil Sn).since stR (HWI.out.trans kk)) ((sl_unveil Sw).since stR (HWI.out.trans kk)) (right_len r1) (right_len r3) (right_bd' r1) (right_bd' r3))
                  have SM := Lib.hid (fun W (kk : Since wr W) vm (hm : Sl 2 QR W vm (meet yn yw)) => by
                    have := rsame_any vm _ (meet yn yw) yn W hm ((sl_unveil Sn).since stR (HWI.out.trans kk)) (right_len (meet_right _ _)) (right_len r1) (right_bd' (meet_right _ _)) (right_bd' r1)
                    rw [r4] at this; exact this)
                  have RA0 := Lib.hid (fun (h : yw = yn) W (kk : Since wr W) => ranges_at ((sl_unveil Sw).since stR (HWI.out.trans kk)) ((sl_unveil Sn).since stR (HWI.out.trans kk)) (right_len r1) (b := true) (decide_eq_true h))
                  obtain ⟨pn, hpn⟩ : ∃ p, p = yn.length := ⟨_, rfl⟩
                  obtain ⟨pw, hpw⟩ : ∃ p, p = yw.length := ⟨_, rfl⟩
                  have hz : ((pn : Int) == 0) = false := by
                    rw [beq_eq_false_iff_ne]; intro h
                    exact r2 (List.eq_nil_of_length_eq_zero (by omega))
                  rw [← hpn] at HC RT MT SM RA0
                  rw [← hpw] at HC MT RA0
                  have R5 := Lib.hid r5
                  clear hj1 hj2 Sn Sw e0 e1 E0 E1 E2 g1 g2 r1 r2 r3 r4 r5 hpn hpw y61 y62
                  by_cases hjx : (j : Int) = xx
                  · have hbx : ((j : Int) != xx) = false := by rw [bne_eq_false_iff_eq]; exact hjx
                    clear hjx
                    as_aux_lemma =>
                      go_wp2
                      have hr0 : Since wr wr.drew := Since.drew (Since.refl wr)
                      refine wp_region_noPanic ?_
                      refine Reg.wp_region_G (S := fun _ => True) (fun j => [].contains j) (by kernel_rfl) trivial ?_
                      refine' Reg.wpG_take (i := 0) (oi := { dst := some 70, op := Op.move (Operand.tmp 11), type := 22, pos := "law.go:179", after := #[], guard := none }) (v := _) [2, 3, 4, 5, 6, 7, 8, 9, 10, 11, 12, 13, 14, 15, 16, 17, 18, 19, 20, 21, 22, 23, 24, 25, 26, 27, 28, 29, 30, 31, 32, 33, 34, 35, 36, 37, 38, 39, 40, 41, 42, 43, 44, 45, 46, 47, 48] [] rfl rfl (by kernel_rfl) (by kernel_rfl) (by kernel_rfl) (by kernel_rfl) (by kernel_rfl) (by kernel_rfl) (by kernel_rfl) (fun _ _ _ h => h) (Or.inl ⟨by rfl, Or.inl ?hyE1⟩) ?restE1
                      case hyE1 => (intro w' kk ss; obtain ⟨u0, u1, u2⟩ := HC.out _ (hr0.trans kk); go_simp; first | done | with_reducible rfl)
                      try simp only [Act.put, List.setIfInBounds_toArray, List.set_cons_zero, List.set_cons_succ]
                      refine' Reg.wpG_take (i := 1) (oi := { dst := some 71, op := Op.move (Operand.tmp 12), type := 3, pos := "law.go:179", after := #[], guard := none }) (v := _) [2, 3, 4, 5, 6, 7, 8, 9, 10, 11, 12, 13, 14, 15, 16, 17, 18, 19, 20, 21, 22, 23, 24, 25, 26, 27, 28, 29, 30, 31, 32, 33, 34, 35, 36, 37, 38, 39, 40, 41, 42, 43, 44, 45, 46, 47, 48] [] rfl rfl (by kernel_rfl) (by kernel_rfl) (by kernel_rfl) (by kernel_rfl) (by kernel_rfl) (by kernel_rfl) (by kernel_rfl) (fun _ _ _ h => h) (Or.inl ⟨by rfl, Or.inl ?hyE2⟩) ?restE2
                      case hyE2 => (intro w' kk ss; obtain ⟨u0, u1, u2⟩ := HC.out _ (hr0.trans kk); go_simp; first | done | with_reducible rfl)
                      try simp only [Act.put, List.setIfInBounds_toArray, List.set_cons_zero, List.set_cons_succ]
                      refine' Reg.wpG_take (i := 2) (oi := { dst := some 72, op := Op.indexAddr 22 (Operand.tmp 70) (Operand.tmp 71), type := 0, pos := "law.go:179", after := #[{ on := 0, ground := Ground.data }, { on := 1, ground := Ground.data }], guard := none }) (v := _) [3, 4, 5, 6, 7, 8, 9, 10, 11, 12, 13, 14, 15, 16, 17, 18, 19, 20, 21, 22, 23, 24, 25, 26, 27, 28, 29, 30, 31, 32, 33, 34, 35, 36, 37, 38, 39, 40, 41, 42, 43, 44, 45, 46, 47, 48] [] rfl rfl (by kernel_rfl) (by kernel_rfl) (by kernel_rfl) (by kernel_rfl) (by kernel_rfl) (by kernel_rfl) (by kernel_rfl) (fun _ _ _ h => h) (Or.inl ⟨by rfl, Or.inl ?hyE3⟩) ?restE3
                      case hyE3 => (intro w' kk ss; obtain ⟨u0, u1, u2⟩ := HC.out _ (hr0.trans kk); go_simp; first | done | with_reducible rfl)
                      try simp only [Act.put, List.setIfInBounds_toArray, List.set_cons_zero, List.set_cons_succ]
                      refine' Reg.wpG_take (i := 3) (oi := { dst := some 73, op := Op.load 33 (Operand.tmp 72), type := 33, pos := "law.go:179", after := #[{ on := 2, ground := Ground.data }], guard := none }) (v := _) [4, 5, 6, 7, 8, 9, 10, 11, 12, 13, 14, 15, 16, 17, 18, 19, 20, 21, 22, 23, 24, 25, 26, 27, 28, 29, 30, 31, 32, 33, 34, 35, 36, 37, 38, 39, 40, 41, 42, 43, 44, 45, 46, 47, 48] [] rfl rfl (by kernel_rfl) (by kernel_rfl) (by kernel_rfl) (by kernel_rfl) (by kernel_rfl) (by kernel_rfl) (by kernel_rfl) (fun _ _ _ h => h) (Or.inl ⟨by rfl, Or.inl ?hyE4⟩) ?restE4
                      case hyE4 => (intro w' kk ss; obtain ⟨u0, u1, u2⟩ := HC.out _ (hr0.trans kk); go_simp; first | done | with_reducible rfl)
                      try simp only [Act.put, List.setIfInBounds_toArray, List.set_cons_zero, List.set_cons_succ]
                      refine Reg.wpG_take (i := 4) (oi := { dst := some 74, op := Op.call { callee := Callee.value (Operand.func 28), args := #[Operand.tmp 73], argTypes := #[33] }, type := 4, pos := "law.go:179", after := #[{ on := 3, ground := Ground.data }], guard := none }) (v := .bool true) [5, 6, 7, 8, 9, 10, 11, 12, 13, 14, 15, 16, 17, 18, 19, 20, 21, 22, 23, 24, 25, 26, 27, 28, 29, 30, 31, 32, 33, 34, 35, 36, 37, 38, 39, 40, 41, 42, 43, 44, 45, 46, 47, 48] [] rfl rfl (by kernel_rfl) (by kernel_rfl) (by kernel_rfl) (by kernel_rfl) (by kernel_rfl) (by kernel_rfl) (by kernel_rfl) (fun _ _ _ h => h) (Or.inl ⟨by rfl, Or.inr ⟨28, #[.slice Bn pn dn], fun w' kk ss => ⟨?_, ?_⟩⟩⟩) ?_
                      · (try dsimp only at ss); go_simp
                      · exact (RT.out w' (hr0.trans kk)).mono fun e w'' h => ⟨h.1, h.2, trivial⟩
                      try simp only [Act.put, List.setIfInBounds_toArray, List.set_cons_zero, List.set_cons_succ]
                      refine' Reg.wpG_take (i := 5) (oi := { dst := some 75, op := Op.unOp UnOp.not 4 (Operand.tmp 74), type := 4, pos := "law.go:179", after := #[{ on := 4, ground := Ground.data }], guard := none }) (v := _) [6, 7, 8, 9, 10, 11, 12, 13, 14, 15, 16, 17, 18, 19, 20, 21, 22, 23, 24, 25, 26, 27, 28, 29, 30, 31, 32, 33, 34, 35, 36, 37, 38, 39, 40, 41, 42, 43, 44, 45, 46, 47, 48] [] rfl rfl (by kernel_rfl) (by kernel_rfl) (by kernel_rfl) (by kernel_rfl) (by kernel_rfl) (by kernel_rfl) (by kernel_rfl) (fun _ _ _ h => h) (Or.inl ⟨by rfl, Or.inl ?hyE5⟩) ?restE5
                      case hyE5 => (intro w' kk ss; obtain ⟨u0, u1, u2⟩ := HC.out _ (hr0.trans kk); go_simp; first | done | with_reducible rfl)
                      try simp only [Act.put, List.setIfInBounds_toArray, List.set_cons_zero, List.set_cons_succ]
                      refine' Reg.wpG_take (i := 6) (oi := { dst := some 76, op := Op.move (Operand.tmp 75), type := 4, pos := "law.go:179", after := #[{ on := 5, ground := Ground.data }, { on := 4, ground := Ground.chain }], guard := none }) (v := _) [7, 8, 9, 10, 11, 12, 13, 14, 15, 16, 17, 18, 19, 20, 21, 22, 23, 24, 25, 26, 27, 28, 29, 30, 31, 32, 33, 34, 35, 36, 37, 38, 39, 40, 41, 42, 43, 44, 45, 46, 47, 48] [] rfl rfl (by kernel_rfl) (by kernel_rfl) (by kernel_rfl) (by kernel_rfl) (by kernel_rfl) (by kernel_rfl) (by kernel_rfl) (fun _ _ _ h => h) (Or.inl ⟨by rfl, Or.inl ?hyE6⟩) ?restE6
                      case hyE6 => (intro w' kk ss; obtain ⟨u0, u1, u2⟩ := HC.out _ (hr0.trans kk); go_simp; first | done | with_reducible rfl)
                      try simp only [Act.put, List.setIfInBounds_toArray, List.set_cons_zero, List.set_cons_succ]
                      refine' Reg.wpG_take (i := 7) (oi := { dst := some 77, op := Op.move (Operand.tmp 11), type := 22, pos := "law.go:179", after := #[{ on := 6, ground := Ground.guard }], guard := some (6, false) }) (v := _) [9, 10, 11, 12, 13, 14, 15, 16, 17, 18, 19, 20, 21, 22, 23, 24, 25, 26, 27, 28, 29, 30, 31, 32, 33, 34, 35, 36, 37, 38, 39, 40, 41, 42, 43, 44, 45, 46, 47, 48] [] rfl rfl (by kernel_rfl) (by kernel_rfl) (by kernel_rfl) (by kernel_rfl) (by kernel_rfl) (by kernel_rfl) (by kernel_rfl) (fun _ _ _ h => h) (Or.inl ⟨by rfl, Or.inl ?hyE7⟩) ?restE7
                      case hyE7 => (intro w' kk ss; obtain ⟨u0, u1, u2⟩ := HC.out _ (hr0.trans kk); go_simp; first | done | with_reducible rfl)
                      try simp only [Act.put, List.setIfInBounds_toArray, List.set_cons_zero, List.set_cons_succ]
                      refine' Reg.wpG_take (i := 8) (oi := { dst := some 78, op := Op.move (Operand.tmp 12), type := 3, pos := "law.go:179", after := #[{ on := 6, ground := Ground.guard }], guard := some (6, false) }) (v := _) [9, 10, 11, 12, 13, 14, 15, 16, 17, 18, 19, 20, 21, 22, 23, 24, 25, 26, 27, 28, 29, 30, 31, 32, 33, 34, 35, 36, 37, 38, 39, 40, 41, 42, 43, 44, 45, 46, 47, 48] [] rfl rfl (by kernel_rfl) (by kernel_rfl) (by kernel_rfl) (by kernel_rfl) (by kernel_rfl) (by kernel_rfl) (by kernel_rfl) (fun _ _ _ h => h) (Or.inl ⟨by rfl, Or.inl ?hyE8⟩) ?restE8
                      case hyE8 => (intro w' kk ss; obtain ⟨u0, u1, u2⟩ := HC.out _ (hr0.trans kk); go_simp; first | done | with_reducible rfl)
                      try simp only [Act.put, List.setIfInBounds_toArray, List.set_cons_zero, List.set_cons_succ]
                      refine' Reg.wpG_take (i := 9) (oi := { dst := some 79, op := Op.indexAddr 22 (Operand.tmp 77) (Operand.tmp 78), type := 0, pos := "law.go:179", after := #[{ on := 7, ground := Ground.data }, { on := 8, ground := Ground.data }, { on := 6, ground := Ground.guard }], guard := some (6, false) }) (v := _) [10, 11, 12, 13, 14, 15, 16, 17, 18, 19, 20, 21, 22, 23, 24, 25, 26, 27, 28, 29, 30, 31, 32, 33, 34, 35, 36, 37, 38, 39, 40, 41, 42, 43, 44, 45, 46, 47, 48] [] rfl rfl (by kernel_rfl) (by kernel_rfl) (by kernel_rfl) (by kernel_rfl) (by kernel_rfl) (by kernel_rfl) (by kernel_rfl) (fun _ _ _ h => h) (Or.inl ⟨by rfl, Or.inl ?hyE9⟩) ?restE9
                      case hyE9 => (intro w' kk ss; obtain ⟨u0, u1, u2⟩ := HC.out _ (hr0.trans kk); go_simp; first | done | with_reducible rfl)
                      try simp only [Act.put, List.setIfInBounds_toArray, List.set_cons_zero, List.set_cons_succ]
                      refine' Reg.wpG_take (i := 10) (oi := { dst := some 80, op := Op.load 33 (Operand.tmp 79), type := 33, pos := "law.go:179", after := #[{ on := 9, ground := Ground.data }, { on := 6, ground := Ground.guard }], guard := some (6, false) }) (v := _) [11, 12, 13, 14, 15, 16, 17, 18, 19, 20, 21, 22, 23, 24, 25, 26, 27, 28, 29, 30, 31, 32, 33, 34, 35, 36, 37, 38, 39, 40, 41, 42, 43, 44, 45, 46, 47, 48] [] rfl rfl (by kernel_rfl) (by kernel_rfl) (by kernel_rfl) (by kernel_rfl) (by kernel_rfl) (by kernel_rfl) (by kernel_rfl) (fun _ _ _ h => h) (Or.inl ⟨by rfl, Or.inl ?hyE10⟩) ?restE10
                      case hyE10 => (intro w' kk ss; obtain ⟨u0, u1, u2⟩ := HC.out _ (hr0.trans kk); go_simp; first | done | with_reducible rfl)
                      try simp only [Act.put, List.setIfInBounds_toArray, List.set_cons_zero, List.set_cons_succ]
                      refine' Reg.wpG_take (i := 11) (oi := { dst := some 81, op := Op.call { callee := Callee.builtin Builtin.len, args := #[Operand.tmp 80], argTypes := #[33] }, type := 3, pos := "law.go:179", after := #[{ on := 10, ground := Ground.data }, { on := 6, ground := Ground.guard }], guard := some (6, false) }) (v := _) [12, 13, 14, 15, 16, 17, 18, 19, 20, 21, 22, 23, 24, 25, 26, 27, 28, 29, 30, 31, 32, 33, 34, 35, 36, 37, 38, 39, 40, 41, 42, 43, 44, 45, 46, 47, 48] [] rfl rfl (by kernel_rfl) (by kernel_rfl) (by kernel_rfl) (by kernel_rfl) (by kernel_rfl) (by kernel_rfl) (by kernel_rfl) (fun _ _ _ h => h) (Or.inl ⟨by rfl, Or.inl ?hyE11⟩) ?restE11
                      case hyE11 => (intro w' kk ss; obtain ⟨u0, u1, u2⟩ := HC.out _ (hr0.trans kk); go_simp; first | done | with_reducible rfl)
                      try simp only [Act.put, List.setIfInBounds_toArray, List.set_cons_zero, List.set_cons_succ]
                      refine' Reg.wpG_take (i := 12) (oi := { dst := some 82, op := Op.binOp BinOp.eql 3 (Operand.tmp 81) (Operand.const (Value.int IntKind.i64 0)) 3, type := 4, pos := "law.go:179", after := #[{ on := 11, ground := Ground.data }, { on := 6, ground := Ground.guard }], guard := some (6, false) }) (v := _) [13, 14, 15, 16, 17, 18, 19, 20, 21, 22, 23, 24, 25, 26, 27, 28, 29, 30, 31, 32, 33, 34, 35, 36, 37, 38, 39, 40, 41, 42, 43, 44, 45, 46, 47, 48] [] rfl rfl (by kernel_rfl) (by kernel_rfl) (by kernel_rfl) (by kernel_rfl) (by kernel_rfl) (by kernel_rfl) (by kernel_rfl) (fun _ _ _ h => h) (Or.inl ⟨by rfl, Or.inl ?hyE12⟩) ?restE12
                      case hyE12 => (intro w' kk ss; obtain ⟨u0, u1, u2⟩ := HC.out _ (hr0.trans kk); go_simp; first | done | with_reducible rfl)
                      try simp only [Act.put, List.setIfInBounds_toArray, List.set_cons_zero, List.set_cons_succ]
                      refine' Reg.wpG_take (i := 13) (oi := { dst := some 83, op := Op.pick (Operand.tmp 76) (Operand.const (Value.bool true)) (Operand.tmp 82), type := 4, pos := "law.go:179", after := #[{ on := 6, ground := Ground.data }, { on := 12, ground := Ground.data }], guard := none }) (v := _) [14, 15, 16, 17, 18, 19, 20, 21, 22, 23, 24, 25, 26, 27, 28, 29, 30, 31, 32, 33, 34, 35, 36, 37, 38, 39, 40, 41, 42, 43, 44, 45, 46, 47, 48] [] rfl rfl (by kernel_rfl) (by kernel_rfl) (by kernel_rfl) (by kernel_rfl) (by kernel_rfl) (by kernel_rfl) (by kernel_rfl) (fun _ _ _ h => h) (Or.inl ⟨by rfl, Or.inl ?hyE13⟩) ?restE13
                      case hyE13 => (intro w' kk ss; obtain ⟨u0, u1, u2⟩ := HC.out _ (hr0.trans kk); go_simp; first | done | with_reducible rfl)
                      try simp only [Act.put, List.setIfInBounds_toArray, List.set_cons_zero, List.set_cons_succ]
                      refine' Reg.wpG_take (i := 14) (oi := { dst := some 84, op := Op.move (Operand.tmp 83), type := 4, pos := "law.go:179", after := #[{ on := 13, ground := Ground.data }, { on := 6, ground := Ground.chain }], guard := none }) (v := _) [15, 16, 17, 18, 19, 20, 21, 22, 23, 24, 25, 26, 27, 28, 29, 30, 31, 32, 33, 34, 35, 36, 37, 38, 39, 40, 41, 42, 43, 44, 45, 46, 47, 48] [] rfl rfl (by kernel_rfl) (by kernel_rfl) (by kernel_rfl) (by kernel_rfl) (by kernel_rfl) (by kernel_rfl) (by kernel_rfl) (fun _ _ _ h => h) (Or.inl ⟨by rfl, Or.inl ?hyE14⟩) ?restE14
                      case hyE14 => (intro w' kk ss; obtain ⟨u0, u1, u2⟩ := HC.out _ (hr0.trans kk); go_simp; first | done | with_reducible rfl)
                      try simp only [Act.put, List.setIfInBounds_toArray, List.set_cons_zero, List.set_cons_succ]
                      refine' Reg.wpG_take (i := 15) (oi := { dst := some 85, op := Op.move (Operand.tmp 11), type := 22, pos := "law.go:179", after := #[{ on := 14, ground := Ground.guard }], guard := some (14, false) }) (v := _) [17, 18, 23, 28, 29, 30, 31, 32, 33, 34, 35, 36, 37, 38, 39, 40, 41, 42, 43, 44, 45, 46, 47, 48] [] rfl rfl (by kernel_rfl) (by kernel_rfl) (by kernel_rfl) (by kernel_rfl) (by kernel_rfl) (by kernel_rfl) (by kernel_rfl) (fun _ _ _ h => h) (Or.inl ⟨by rfl, Or.inl ?hyE15⟩) ?restE15
                      case hyE15 => (intro w' kk ss; obtain ⟨u0, u1, u2⟩ := HC.out _ (hr0.trans kk); go_simp; first | done | with_reducible rfl)
                      try simp only [Act.put, List.setIfInBounds_toArray, List.set_cons_zero, List.set_cons_succ]
                      refine' Reg.wpG_take (i := 16) (oi := { dst := some 86, op := Op.move (Operand.tmp 12), type := 3, pos := "law.go:179", after := #[{ on := 14, ground := Ground.guard }], guard := some (14, false) }) (v := _) [17, 18, 23, 28, 29, 30, 31, 32, 33, 34, 35, 36, 37, 38, 39, 40, 41, 42, 43, 44, 45, 46, 47, 48] [] rfl rfl (by kernel_rfl) (by kernel_rfl) (by kernel_rfl) (by kernel_rfl) (by kernel_rfl) (by kernel_rfl) (by kernel_rfl) (fun _ _ _ h => h) (Or.inl ⟨by rfl, Or.inl ?hyE16⟩) ?restE16
                      case hyE16 => (intro w' kk ss; obtain ⟨u0, u1, u2⟩ := HC.out _ (hr0.trans kk); go_simp; first | done | with_reducible rfl)
                      try simp only [Act.put, List.setIfInBounds_toArray, List.set_cons_zero, List.set_cons_succ]
                      refine' Reg.wpG_take (i := 17) (oi := { dst := some 87, op := Op.indexAddr 22 (Operand.tmp 85) (Operand.tmp 86), type := 0, pos := "law.go:179", after := #[{ on := 15, ground := Ground.data }, { on := 16, ground := Ground.data }, { on := 14, ground := Ground.guard }], guard := some (14, false) }) (v := _) [18, 23, 28, 29, 30, 31, 32, 33, 34, 35, 36, 37, 38, 39, 40, 41, 42, 43, 44, 45, 46, 47, 48] [] rfl rfl (by kernel_rfl) (by kernel_rfl) (by kernel_rfl) (by kernel_rfl) (by kernel_rfl) (by kernel_rfl) (by kernel_rfl) (fun _ _ _ h => h) (Or.inl ⟨by rfl, Or.inl ?hyE17⟩) ?restE17
                      case hyE17 => (intro w' kk ss; obtain ⟨u0, u1, u2⟩ := HC.out _ (hr0.trans kk); go_simp; first | done | with_reducible rfl)
                      try simp only [Act.put, List.setIfInBounds_toArray, List.set_cons_zero, List.set_cons_succ]
                      refine' Reg.wpG_take (i := 18) (oi := { dst := some 88, op := Op.load 33 (Operand.tmp 87), type := 33, pos := "law.go:179", after := #[{ on := 17, ground := Ground.data }, { on := 14, ground := Ground.guard }], guard := some (14, false) }) (v := _) [23, 28, 29, 30, 31, 32, 33, 34, 35, 36, 37, 38, 39, 40, 41, 42, 43, 44, 45, 46, 47, 48] [] rfl rfl (by kernel_rfl) (by kernel_rfl) (by kernel_rfl) (by kernel_rfl) (by kernel_rfl) (by kernel_rfl) (by kernel_rfl) (fun _ _ _ h => h) (Or.inl ⟨by rfl, Or.inl ?hyE18⟩) ?restE18
                      case hyE18 => (intro w' kk ss; obtain ⟨u0, u1, u2⟩ := HC.out _ (hr0.trans kk); go_simp; first | done | with_reducible rfl)
                      try simp only [Act.put, List.setIfInBounds_toArray, List.set_cons_zero, List.set_cons_succ]
                      refine' Reg.wpG_take (i := 19) (oi := { dst := some 89, op := Op.move (Operand.tmp 8), type := 22, pos := "law.go:179", after := #[{ on := 14, ground := Ground.guard }], guard := some (14, false) }) (v := _) [21, 22, 23, 28, 29, 30, 31, 32, 33, 34, 35, 36, 37, 38, 39, 40, 41, 42, 43, 44, 45, 46, 47, 48] [] rfl rfl (by kernel_rfl) (by kernel_rfl) (by kernel_rfl) (by kernel_rfl) (by kernel_rfl) (by kernel_rfl) (by kernel_rfl) (fun _ _ _ h => h) (Or.inl ⟨by rfl, Or.inl ?hyE19⟩) ?restE19
                      case hyE19 => (intro w' kk ss; obtain ⟨u0, u1, u2⟩ := HC.out _ (hr0.trans kk); go_simp; first | done | with_reducible rfl)
                      try simp only [Act.put, List.setIfInBounds_toArray, List.set_cons_zero, List.set_cons_succ]
                      refine' Reg.wpG_take (i := 20) (oi := { dst := some 90, op := Op.move (Operand.tmp 12), type := 3, pos := "law.go:179", after := #[{ on := 14, ground := Ground.guard }], guard := some (14, false) }) (v := _) [21, 22, 23, 28, 29, 30, 31, 32, 33, 34, 35, 36, 37, 38, 39, 40, 41, 42, 43, 44, 45, 46, 47, 48] [] rfl rfl (by kernel_rfl) (by kernel_rfl) (by kernel_rfl) (by kernel_rfl) (by kernel_rfl) (by kernel_rfl) (by kernel_rfl) (fun _ _ _ h => h) (Or.inl ⟨by rfl, Or.inl ?hyE20⟩) ?restE20
                      case hyE20 => (intro w' kk ss; obtain ⟨u0, u1, u2⟩ := HC.out _ (hr0.trans kk); go_simp; first | done | with_reducible rfl)
                      try simp only [Act.put, List.setIfInBounds_toArray, List.set_cons_zero, List.set_cons_succ]
                      refine' Reg.wpG_take (i := 21) (oi := { dst := some 91, op := Op.indexAddr 22 (Operand.tmp 89) (Operand.tmp 90), type := 0, pos := "law.go:179", after := #[{ on := 19, ground := Ground.data }, { on := 20, ground := Ground.data }, { on := 14, ground := Ground.guard }], guard := some (14, false) }) (v := _) [22, 23, 28, 29, 30, 31, 32, 33, 34, 35, 36, 37, 38, 39, 40, 41, 42, 43, 44, 45, 46, 47, 48] [] rfl rfl (by kernel_rfl) (by kernel_rfl) (by kernel_rfl) (by kernel_rfl) (by kernel_rfl) (by kernel_rfl) (by kernel_rfl) (fun _ _ _ h => h) (Or.inl ⟨by rfl, Or.inl ?hyE21⟩) ?restE21
                      case hyE21 => (intro w' kk ss; obtain ⟨u0, u1, u2⟩ := HC.out _ (hr0.trans kk); go_simp; first | done | with_reducible rfl)
                      try simp only [Act.put, List.setIfInBounds_toArray, List.set_cons_zero, List.set_cons_succ]
                      refine' Reg.wpG_take (i := 22) (oi := { dst := some 92, op := Op.load 33 (Operand.tmp 91), type := 33, pos := "law.go:179", after := #[{ on := 21, ground := Ground.data }, { on := 14, ground := Ground.guard }], guard := some (14, false) }) (v := _) [23, 28, 29, 30, 31, 32, 33, 34, 35, 36, 37, 38, 39, 40, 41, 42, 43, 44, 45, 46, 47, 48] [] rfl rfl (by kernel_rfl) (by kernel_rfl) (by kernel_rfl) (by kernel_rfl) (by kernel_rfl) (by kernel_rfl) (by kernel_rfl) (fun _ _ _ h => h) (Or.inl ⟨by rfl, Or.inl ?hyE22⟩) ?restE22
                      case hyE22 => (intro w' kk ss; obtain ⟨u0, u1, u2⟩ := HC.out _ (hr0.trans kk); go_simp; first | done | with_reducible rfl)
                      try simp only [Act.put, List.setIfInBounds_toArray, List.set_cons_zero, List.set_cons_succ]
                      refine' Reg.wpG_take (i := 24) (oi := { dst := some 94, op := Op.move (Operand.tmp 11), type := 22, pos := "law.go:179", after := #[{ on := 14, ground := Ground.guard }], guard := some (14, false) }) (v := _) [26, 27, 28, 29, 30, 31, 32, 33, 34, 35, 36, 37, 38, 39, 40, 41, 42, 43, 44, 45, 46, 47, 48] [] rfl rfl (by kernel_rfl) (by kernel_rfl) (by kernel_rfl) (by kernel_rfl) (by kernel_rfl) (by kernel_rfl) (by kernel_rfl) (fun _ _ _ h => h) (Or.inl ⟨by rfl, Or.inl ?hyE23⟩) ?restE23
                      case hyE23 => (intro w' kk ss; obtain ⟨u0, u1, u2⟩ := HC.out _ (hr0.trans kk); go_simp; first | done | with_reducible rfl)
                      try simp only [Act.put, List.setIfInBounds_toArray, List.set_cons_zero, List.set_cons_succ]
                      refine' Reg.wpG_take (i := 25) (oi := { dst := some 95, op := Op.move (Operand.tmp 12), type := 3, pos := "law.go:179", after := #[{ on := 14, ground := Ground.guard }], guard := some (14, false) }) (v := _) [26, 27, 28, 29, 30, 31, 32, 33, 34, 35, 36, 37, 38, 39, 40, 41, 42, 43, 44, 45, 46, 47, 48] [] rfl rfl (by kernel_rfl) (by kernel_rfl) (by kernel_rfl) (by kernel_rfl) (by kernel_rfl) (by kernel_rfl) (by kernel_rfl) (fun _ _ _ h => h) (Or.inl ⟨by rfl, Or.inl ?hyE24⟩) ?restE24
                      case hyE24 => (intro w' kk ss; obtain ⟨u0, u1, u2⟩ := HC.out _ (hr0.trans kk); go_simp; first | done | with_reducible rfl)
                      try simp only [Act.put, List.setIfInBounds_toArray, List.set_cons_zero, List.set_cons_succ]
                      refine' Reg.wpG_take (i := 26) (oi := { dst := some 96, op := Op.indexAddr 22 (Operand.tmp 94) (Operand.tmp 95), type := 0, pos := "law.go:179", after := #[{ on := 24, ground := Ground.data }, { on := 25, ground := Ground.data }, { on := 14, ground := Ground.guard }], guard := some (14, false) }) (v := _) [27, 28, 29, 30, 31, 32, 33, 34, 35, 36, 37, 38, 39, 40, 41, 42, 43, 44, 45, 46, 47, 48] [] rfl rfl (by kernel_rfl) (by kernel_rfl) (by kernel_rfl) (by kernel_rfl) (by kernel_rfl) (by kernel_rfl) (by kernel_rfl) (fun _ _ _ h => h) (Or.inl ⟨by rfl, Or.inl ?hyE25⟩) ?restE25
                      case hyE25 => (intro w' kk ss; obtain ⟨u0, u1, u2⟩ := HC.out _ (hr0.trans kk); go_simp; first | done | with_reducible rfl)
                      try simp only [Act.put, List.setIfInBounds_toArray, List.set_cons_zero, List.set_cons_succ]
                      refine' Reg.wpG_take (i := 27) (oi := { dst := some 97, op := Op.load 33 (Operand.tmp 96), type := 33, pos := "law.go:179", after := #[{ on := 26, ground := Ground.data }, { on := 14, ground := Ground.guard }], guard := some (14, false) }) (v := _) [28, 29, 30, 31, 32, 33, 34, 35, 36, 37, 38, 39, 40, 41, 42, 43, 44, 45, 46, 47, 48] [] rfl rfl (by kernel_rfl) (by kernel_rfl) (by kernel_rfl) (by kernel_rfl) (by kernel_rfl) (by kernel_rfl) (by kernel_rfl) (fun _ _ _ h => h) (Or.inl ⟨by rfl, Or.inl ?hyE26⟩) ?restE26
                      case hyE26 => (intro w' kk ss; obtain ⟨u0, u1, u2⟩ := HC.out _ (hr0.trans kk); go_simp; first | done | with_reducible rfl)
                      try simp only [Act.put, List.setIfInBounds_toArray, List.set_cons_zero, List.set_cons_succ]
                      refine Reg.wpG_ready (rs := [23]) (by kernel_rfl) (by simp) (fun wa1 ka1 sa1 => ?_)
                      have hr0 := hr0.trans ka1
                      have hgb1 := hr0.size
                      refine Reg.AllG.first (o := { dst := some 93, op := Op.call { callee := Callee.value (Operand.func 30), args := #[Operand.tmp 88, Operand.tmp 92], argTypes := #[33, 33] }, type := 33, pos := "law.go:179", after := #[{ on := 18, ground := Ground.data }, { on := 22, ground := Ground.data }, { on := 14, ground := Ground.chain }, { on := 14, ground := Ground.guard }], guard := some (14, false) }) rfl (by rfl) (fun K hK => ?_) Reg.AllG.nil
                      go_simp
                      (with_reducible refine (MT.out wa1 hr0).mono ?_)
                      rintro e ya1 ⟨A9, m9, c9, rfl, -, h9, hx⟩
                      refine hK.out _ _ trivial hx ?_
                      clear hK K
                      have hr0 := hr0.trans hx
                      try simp only [Act.put, List.setIfInBounds_toArray, List.set_cons_zero, List.set_cons_succ]
                      refine Reg.wpG_ready (rs := [28]) (by kernel_rfl) (by simp) (fun wa2 ka2 sa2 => ?_)
                      have hr0 := hr0.trans ka2
                      have hgb2 := hr0.size
                      have h9 := h9.since stR ka2
                      refine Reg.AllG.first (o := { dst := some 98, op := Op.call { callee := Callee.value (Operand.func 29), args := #[Operand.tmp 93, Operand.tmp 97], argTypes := #[33, 33] }, type := 4, pos := "law.go:179", after := #[{ on := 23, ground := Ground.data }, { on := 27, ground := Ground.data }, { on := 23, ground := Ground.chain }, { on := 14, ground := Ground.guard }], guard := some (14, false) }) rfl (by rfl) (fun K hK => ?_) Reg.AllG.nil
                      go_simp
                      (with_reducible refine (SM.out wa2 hr0 _ h9).mono ?_)
                      rintro e ya2 ⟨rfl, hx⟩
                      refine hK.out _ _ trivial hx ?_
                      clear hK K
                      have hr0 := hr0.trans hx
                      have h9 := h9.since stR hx
                      try simp only [Act.put, List.setIfInBounds_toArray, List.set_cons_zero, List.set_cons_succ]
                      refine' Reg.wpG_take (i := 29) (oi := { dst := some 99, op := Op.unOp UnOp.not 4 (Operand.tmp 98), type := 4, pos := "law.go:179", after := #[{ on := 28, ground := Ground.data }, { on := 14, ground := Ground.guard }], guard := some (14, false) }) (v := _) [30, 31, 32, 33, 34, 35, 36, 37, 38, 39, 40, 41, 42, 43, 44, 45, 46, 47, 48] [] rfl rfl (by kernel_rfl) (by kernel_rfl) (by kernel_rfl) (by kernel_rfl) (by kernel_rfl) (by kernel_rfl) (by kernel_rfl) (fun _ _ _ h => h) (Or.inl ⟨by rfl, Or.inl ?hyE27⟩) ?restE27
                      case hyE27 => (intro w' kk ss; obtain ⟨u0, u1, u2⟩ := HC.out _ (hr0.trans kk); go_simp; first | done | with_reducible rfl)
                      try simp only [Act.put, List.setIfInBounds_toArray, List.set_cons_zero, List.set_cons_succ]
                      refine' Reg.wpG_take (i := 30) (oi := { dst := some 100, op := Op.pick (Operand.tmp 84) (Operand.const (Value.bool true)) (Operand.tmp 99), type := 4, pos := "law.go:179", after := #[{ on := 14, ground := Ground.data }, { on := 29, ground := Ground.data }], guard := none }) (v := _) [31, 32, 33, 34, 35, 36, 37, 38, 39, 40, 41, 42, 43, 44, 45, 46, 47, 48] [] rfl rfl (by kernel_rfl) (by kernel_rfl) (by kernel_rfl) (by kernel_rfl) (by kernel_rfl) (by kernel_rfl) (by kernel_rfl) (fun _ _ _ h => h) (Or.inl ⟨by rfl, Or.inl ?hyE28⟩) ?restE28
                      case hyE28 => (intro w' kk ss; obtain ⟨u0, u1, u2⟩ := HC.out _ (hr0.trans kk); go_simp; first | done | with_reducible rfl)
                      try simp only [Act.put, List.setIfInBounds_toArray, List.set_cons_zero, List.set_cons_succ]
                      refine' Reg.wpG_take (i := 31) (oi := { dst := some 101, op := Op.move (Operand.tmp 100), type := 4, pos := "law.go:179", after := #[{ on := 30, ground := Ground.data }, { on := 28, ground := Ground.chain }], guard := none }) (v := _) [32, 33, 34, 35, 36, 37, 38, 39, 40, 41, 42, 43, 44, 45, 46, 47, 48] [] rfl rfl (by kernel_rfl) (by kernel_rfl) (by kernel_rfl) (by kernel_rfl) (by kernel_rfl) (by kernel_rfl) (by kernel_rfl) (fun _ _ _ h => h) (Or.inl ⟨by rfl, Or.inl ?hyE29⟩) ?restE29
                      case hyE29 => (intro w' kk ss; obtain ⟨u0, u1, u2⟩ := HC.out _ (hr0.trans kk); go_simp; first | done | with_reducible rfl)
                      try simp only [Act.put, List.setIfInBounds_toArray, List.set_cons_zero, List.set_cons_succ]
                      refine' Reg.wpG_take (i := 32) (oi := { dst := some 102, op := Op.move (Operand.tmp 12), type := 3, pos := "law.go:179", after := #[{ on := 31, ground := Ground.guard }], guard := some (31, false) }) (v := _) [35, 36, 37, 38, 39, 40, 41, 42, 43, 44, 45, 46, 47, 48] [] rfl rfl (by kernel_rfl) (by kernel_rfl) (by kernel_rfl) (by kernel_rfl) (by kernel_rfl) (by kernel_rfl) (by kernel_rfl) (fun _ _ _ h => h) (Or.inl ⟨by rfl, Or.inl ?hyE30⟩) ?restE30
                      case hyE30 => (intro w' kk ss; obtain ⟨u0, u1, u2⟩ := HC.out _ (hr0.trans kk); go_simp; first | done | with_reducible rfl)
                      try simp only [Act.put, List.setIfInBounds_toArray, List.set_cons_zero, List.set_cons_succ]
                      refine' Reg.wpG_take (i := 33) (oi := { dst := some 103, op := Op.fieldAddr 35 (Operand.tmp 7) 1, type := 0, pos := "law.go:179", after := #[{ on := 31, ground := Ground.guard }], guard := some (31, false) }) (v := _) [34, 35, 36, 37, 38, 39, 40, 41, 42, 43, 44, 45, 46, 47, 48] [] rfl rfl (by kernel_rfl) (by kernel_rfl) (by kernel_rfl) (by kernel_rfl) (by kernel_rfl) (by kernel_rfl) (by kernel_rfl) (fun _ _ _ h => h) (Or.inl ⟨by rfl, Or.inl ?hyE31⟩) ?restE31
                      case hyE31 => (intro w' kk ss; obtain ⟨u0, u1, u2⟩ := HC.out _ (hr0.trans kk); go_simp; first | done | with_reducible rfl)
                      try simp only [Act.put, List.setIfInBounds_toArray, List.set_cons_zero, List.set_cons_succ]
                      refine' Reg.wpG_take (i := 34) (oi := { dst := some 104, op := Op.load 3 (Operand.tmp 103), type := 3, pos := "law.go:179", after := #[{ on := 33, ground := Ground.data }, { on := 31, ground := Ground.guard }], guard := some (31, false) }) (v := _) [35, 36, 37, 38, 39, 40, 41, 42, 43, 44, 45, 46, 47, 48] [] rfl rfl (by kernel_rfl) (by kernel_rfl) (by kernel_rfl) (by kernel_rfl) (by kernel_rfl) (by kernel_rfl) (by kernel_rfl) (fun _ _ _ h => h) (Or.inl ⟨by rfl, Or.inl ?hyE32⟩) ?restE32
                      case hyE32 => (intro w' kk ss; obtain ⟨u0, u1, u2⟩ := HC.out _ (hr0.trans kk); go_simp; first | done | with_reducible rfl)
                      try simp only [Act.put, List.setIfInBounds_toArray, List.set_cons_zero, List.set_cons_succ]
                      refine' Reg.wpG_take (i := 35) (oi := { dst := some 105, op := Op.binOp BinOp.neq 3 (Operand.tmp 102) (Operand.tmp 104) 3, type := 4, pos := "law.go:179", after := #[{ on := 32, ground := Ground.data }, { on := 34, ground := Ground.data }, { on := 31, ground := Ground.guard }], guard := some (31, false) }) (v := _) [36, 37, 38, 39, 40, 41, 42, 43, 44, 45, 46, 47, 48] [] rfl rfl (by kernel_rfl) (by kernel_rfl) (by kernel_rfl) (by kernel_rfl) (by kernel_rfl) (by kernel_rfl) (by kernel_rfl) (fun _ _ _ h => h) (Or.inl ⟨by rfl, Or.inl ?hyE33⟩) ?restE33
                      case hyE33 => (intro w' kk ss; obtain ⟨u0, u1, u2⟩ := HC.out _ (hr0.trans kk); go_simp; first | done | with_reducible rfl)
                      try simp only [Act.put, List.setIfInBounds_toArray, List.set_cons_zero, List.set_cons_succ]
                      refine' Reg.wpG_take (i := 36) (oi := { dst := some 106, op := Op.move (Operand.tmp 105), type := 4, pos := "law.go:179", after := #[{ on := 35, ground := Ground.data }, { on := 31, ground := Ground.chain }, { on := 31, ground := Ground.guard }], guard := some (31, false) }) (v := _) [37, 38, 39, 40, 41, 42, 43, 44, 45, 46, 47, 48] [] rfl rfl (by kernel_rfl) (by kernel_rfl) (by kernel_rfl) (by kernel_rfl) (by kernel_rfl) (by kernel_rfl) (by kernel_rfl) (fun _ _ _ h => h) (Or.inl ⟨by rfl, Or.inl ?hyE34⟩) ?restE34
                      case hyE34 => (intro w' kk ss; obtain ⟨u0, u1, u2⟩ := HC.out _ (hr0.trans kk); go_simp; first | done | with_reducible rfl)
                      try simp only [Act.put, List.setIfInBounds_toArray, List.set_cons_zero, List.set_cons_succ]
                      refine Reg.wpG_take (i := 37) (oi := { dst := some 107, op := Op.move (Operand.tmp 8), type := 22, pos := "law.go:179", after := #[{ on := 36, ground := Ground.guard }], guard := some (36, true) }) (v := undef) [39, 40, 45, 46, 47, 48] [] rfl rfl (by kernel_rfl) (by kernel_rfl) (by kernel_rfl) (by kernel_rfl) (by kernel_rfl) (by kernel_rfl) (by kernel_rfl) (fun _ _ _ h => h) (Or.inr ⟨by rfl, rfl⟩) ?_
                      try simp only [Act.put, List.setIfInBounds_toArray, List.set_cons_zero, List.set_cons_succ]
                      refine Reg.wpG_take (i := 38) (oi := { dst := some 108, op := Op.move (Operand.tmp 12), type := 3, pos := "law.go:179", after := #[{ on := 36, ground := Ground.guard }], guard := some (36, true) }) (v := undef) [39, 40, 45, 46, 47, 48] [] rfl rfl (by kernel_rfl) (by kernel_rfl) (by kernel_rfl) (by kernel_rfl) (by kernel_rfl) (by kernel_rfl) (by kernel_rfl) (fun _ _ _ h => h) (Or.inr ⟨by rfl, rfl⟩) ?_
                      try simp only [Act.put, List.setIfInBounds_toArray, List.set_cons_zero, List.set_cons_succ]
                      refine Reg.wpG_take (i := 39) (oi := { dst := some 109, op := Op.indexAddr 22 (Operand.tmp 107) (Operand.tmp 108), type := 0, pos := "law.go:179", after := #[{ on := 37, ground := Ground.data }, { on := 38, ground := Ground.data }, { on := 36, ground := Ground.guard }], guard := some (36, true) }) (v := undef) [40, 45, 46, 47, 48] [] rfl rfl (by kernel_rfl) (by kernel_rfl) (by kernel_rfl) (by kernel_rfl) (by kernel_rfl) (by kernel_rfl) (by kernel_rfl) (fun _ _ _ h => h) (Or.inr ⟨by rfl, rfl⟩) ?_
                      try simp only [Act.put, List.setIfInBounds_toArray, List.set_cons_zero, List.set_cons_succ]
                      refine Reg.wpG_take (i := 40) (oi := { dst := some 110, op := Op.load 33 (Operand.tmp 109), type := 33, pos := "law.go:179", after := #[{ on := 39, ground := Ground.data }, { on := 36, ground := Ground.guard }], guard := some (36, true) }) (v := undef) [45, 46, 47, 48] [] rfl rfl (by kernel_rfl) (by kernel_rfl) (by kernel_rfl) (by kernel_rfl) (by kernel_rfl) (by kernel_rfl) (by kernel_rfl) (fun _ _ _ h => h) (Or.inr ⟨by rfl, rfl⟩) ?_
                      try simp only [Act.put, List.setIfInBounds_toArray, List.set_cons_zero, List.set_cons_succ]
                      refine Reg.wpG_take (i := 41) (oi := { dst := some 111, op := Op.move (Operand.tmp 11), type := 22, pos := "law.go:179", after := #[{ on := 36, ground := Ground.guard }], guard := some (36, true) }) (v := undef) [43, 44, 45, 46, 47, 48] [] rfl rfl (by kernel_rfl) (by kernel_rfl) (by kernel_rfl) (by kernel_rfl) (by kernel_rfl) (by kernel_rfl) (by kernel_rfl) (fun _ _ _ h => h) (Or.inr ⟨by rfl, rfl⟩) ?_
                      try simp only [Act.put, List.setIfInBounds_toArray, List.set_cons_zero, List.set_cons_succ]
                      refine Reg.wpG_take (i := 42) (oi := { dst := some 112, op := Op.move (Operand.tmp 12), type := 3, pos := "law.go:179", after := #[{ on := 36, ground := Ground.guard }], guard := some (36, true) }) (v := undef) [43, 44, 45, 46, 47, 48] [] rfl rfl (by kernel_rfl) (by kernel_rfl) (by kernel_rfl) (by kernel_rfl) (by kernel_rfl) (by kernel_rfl) (by kernel_rfl) (fun _ _ _ h => h) (Or.inr ⟨by rfl, rfl⟩) ?_
                      try simp only [Act.put, List.setIfInBounds_toArray, List.set_cons_zero, List.set_cons_succ]
                      refine Reg.wpG_take (i := 43) (oi := { dst := some 113, op := Op.indexAddr 22 (Operand.tmp 111) (Operand.tmp 112), type := 0, pos := "law.go:179", after := #[{ on := 41, ground := Ground.data }, { on := 42, ground := Ground.data }, { on := 36, ground := Ground.guard }], guard := some (36, true) }) (v := undef) [44, 45, 46, 47, 48] [] rfl rfl (by kernel_rfl) (by kernel_rfl) (by kernel_rfl) (by kernel_rfl) (by kernel_rfl) (by kernel_rfl) (by kernel_rfl) (fun _ _ _ h => h) (Or.inr ⟨by rfl, rfl⟩) ?_
                      try simp only [Act.put, List.setIfInBounds_toArray, List.set_cons_zero, List.set_cons_succ]
                      refine Reg.wpG_take (i := 44) (oi := { dst := some 114, op := Op.load 33 (Operand.tmp 113), type := 33, pos := "law.go:179", after := #[{ on := 43, ground := Ground.data }, { on := 36, ground := Ground.guard }], guard := some (36, true) }) (v := undef) [45, 46, 47, 48] [] rfl rfl (by kernel_rfl) (by kernel_rfl) (by kernel_rfl) (by kernel_rfl) (by kernel_rfl) (by kernel_rfl) (by kernel_rfl) (fun _ _ _ h => h) (Or.inr ⟨by rfl, rfl⟩) ?_
                      try simp only [Act.put, List.setIfInBounds_toArray, List.set_cons_zero, List.set_cons_succ]
                      refine Reg.wpG_take (i := 45) (oi := { dst := some 115, op := Op.call { callee := Callee.value (Operand.func 25), args := #[Operand.tmp 110, Operand.tmp 114], argTypes := #[33, 33] }, type := 4, pos := "law.go:179", after := #[{ on := 40, ground := Ground.data }, { on := 44, ground := Ground.data }, { on := 36, ground := Ground.chain }, { on := 36, ground := Ground.guard }], guard := some (36, true) }) (v := undef) [46, 47, 48] [] rfl rfl (by kernel_rfl) (by kernel_rfl) (by kernel_rfl) (by kernel_rfl) (by kernel_rfl) (by kernel_rfl) (by kernel_rfl) (fun _ _ _ h => h) (Or.inr ⟨by rfl, rfl⟩) ?_
                      try simp only [Act.put, List.setIfInBounds_toArray, List.set_cons_zero, List.set_cons_succ]
                      refine Reg.wpG_take (i := 46) (oi := { dst := some 116, op := Op.unOp UnOp.not 4 (Operand.tmp 115), type := 4, pos := "law.go:179", after := #[{ on := 45, ground := Ground.data }, { on := 36, ground := Ground.guard }], guard := some (36, true) }) (v := undef) [47, 48] [] rfl rfl (by kernel_rfl) (by kernel_rfl) (by kernel_rfl) (by kernel_rfl) (by kernel_rfl) (by kernel_rfl) (by kernel_rfl) (fun _ _ _ h => h) (Or.inr ⟨by rfl, rfl⟩) ?_
                      try simp only [Act.put, List.setIfInBounds_toArray, List.set_cons_zero, List.set_cons_succ]
                      refine' Reg.wpG_take (i := 47) (oi := { dst := some 117, op := Op.pick (Operand.tmp 106) (Operand.tmp 116) (Operand.const (Value.bool false)), type := 4, pos := "law.go:179", after := #[{ on := 36, ground := Ground.data }, { on := 46, ground := Ground.data }, { on := 31, ground := Ground.guard }], guard := some (31, false) }) (v := _) [48] [] rfl rfl (by kernel_rfl) (by kernel_rfl) (by kernel_rfl) (by kernel_rfl) (by kernel_rfl) (by kernel_rfl) (by kernel_rfl) (fun _ _ _ h => h) (Or.inl ⟨by rfl, Or.inl ?hyE35⟩) ?restE35
                      case hyE35 => (intro w' kk ss; obtain ⟨u0, u1, u2⟩ := HC.out _ (hr0.trans kk); go_simp; first | done | with_reducible rfl)
                      try simp only [Act.put, List.setIfInBounds_toArray, List.set_cons_zero, List.set_cons_succ]
                      refine' Reg.wpG_take (i := 48) (oi := { dst := some 118, op := Op.pick (Operand.tmp 101) (Operand.const (Value.bool true)) (Operand.tmp 117), type := 4, pos := "law.go:179", after := #[{ on := 31, ground := Ground.data }, { on := 47, ground := Ground.data }], guard := none }) (v := _) [] [] rfl rfl (by kernel_rfl) (by kernel_rfl) (by kernel_rfl) (by kernel_rfl) (by kernel_rfl) (by kernel_rfl) (by kernel_rfl) (fun _ _ _ h => h) (Or.inl ⟨by rfl, Or.inl ?hyE36⟩) ?restE36
                      case hyE36 => (intro w' kk ss; obtain ⟨u0, u1, u2⟩ := HC.out _ (hr0.trans kk); go_simp; first | done | with_reducible rfl)
                      try simp only [Act.put, List.setIfInBounds_toArray, List.set_cons_zero, List.set_cons_succ]
                      refine Reg.wpG_done (by kernel_rfl) (fun wq ke se => ?_) _
                      refine NoPanic.normal ?_
                      have hr0 := hr0.trans ke
                      have h9 := h9.since stR ke
                      clear ke
                      clear h9
                      go_wp2
                      go_roundw
                      case rel => exact ⟨j + 1, by go_num, by omega, HWI.out.trans hr0⟩
                      case measure => simp [intOf]; omega
                  · have hbx : ((j : Int) != xx) = true := by rw [bne_iff_ne]; exact hjx
                    have RA := Lib.hid (RA0.out (R5.out hjx))
                    clear hjx
                    as_aux_lemma =>
                      go_wp2
                      have hr0 : Since wr wr.drew := Since.drew (Since.refl wr)
                      refine wp_region_noPanic ?_
                      refine Reg.wp_region_G (S := fun _ => True) (fun j => [].contains j) (by kernel_rfl) trivial ?_
                      refine' Reg.wpG_take (i := 0) (oi := { dst := some 70, op := Op.move (Operand.tmp 11), type := 22, pos := "law.go:179", after := #[], guard := none }) (v := _) [2, 3, 4, 5, 6, 7, 8, 9, 10, 11, 12, 13, 14, 15, 16, 17, 18, 19, 20, 21, 22, 23, 24, 25, 26, 27, 28, 29, 30, 31, 32, 33, 34, 35, 36, 37, 38, 39, 40, 41, 42, 43, 44, 45, 46, 47, 48] [] rfl rfl (by kernel_rfl) (by kernel_rfl) (by kernel_rfl) (by kernel_rfl) (by kernel_rfl) (by kernel_rfl) (by kernel_rfl) (fun _ _ _ h => h) (Or.inl ⟨by rfl, Or.inl ?hyN37⟩) ?restN37
                      case hyN37 => (intro w' kk ss; obtain ⟨u0, u1, u2⟩ := HC.out _ (hr0.trans kk); go_simp; first | done | with_reducible rfl)
                      try simp only [Act.put, List.setIfInBounds_toArray, List.set_cons_zero, List.set_cons_succ]
                      refine' Reg.wpG_take (i := 1) (oi := { dst := some 71, op := Op.move (Operand.tmp 12), type := 3, pos := "law.go:179", after := #[], guard := none }) (v := _) [2, 3, 4, 5, 6, 7, 8, 9, 10, 11, 12, 13, 14, 15, 16, 17, 18, 19, 20, 21, 22, 23, 24, 25, 26, 27, 28, 29, 30, 31, 32, 33, 34, 35, 36, 37, 38, 39, 40, 41, 42, 43, 44, 45, 46, 47, 48] [] rfl rfl (by kernel_rfl) (by kernel_rfl) (by kernel_rfl) (by kernel_rfl) (by kernel_rfl) (by kernel_rfl) (by kernel_rfl) (fun _ _ _ h => h) (Or.inl ⟨by rfl, Or.inl ?hyN38⟩) ?restN38
                      case hyN38 => (intro w' kk ss; obtain ⟨u0, u1, u2⟩ := HC.out _ (hr0.trans kk); go_simp; first | done | with_reducible rfl)
                      try simp only [Act.put, List.setIfInBounds_toArray, List.set_cons_zero, List.set_cons_succ]
                      refine' Reg.wpG_take (i := 2) (oi := { dst := some 72, op := Op.indexAddr 22 (Operand.tmp 70) (Operand.tmp 71), type := 0, pos := "law.go:179", after := #[{ on := 0, ground := Ground.data }, { on := 1, ground := Ground.data }], guard := none }) (v := _) [3, 4, 5, 6, 7, 8, 9, 10, 11, 12, 13, 14, 15, 16, 17, 18, 19, 20, 21, 22, 23, 24, 25, 26, 27, 28, 29, 30, 31, 32, 33, 34, 35, 36, 37, 38, 39, 40, 41, 42, 43, 44, 45, 46, 47, 48] [] rfl rfl (by kernel_rfl) (by kernel_rfl) (by kernel_rfl) (by kernel_rfl) (by kernel_rfl) (by kernel_rfl) (by kernel_rfl) (fun _ _ _ h => h) (Or.inl ⟨by rfl, Or.inl ?hyN39⟩) ?restN39
                      case hyN39 => (intro w' kk ss; obtain ⟨u0, u1, u2⟩ := HC.out _ (hr0.trans kk); go_simp; first | done | with_reducible rfl)
                      try simp only [Act.put, List.setIfInBounds_toArray, List.set_cons_zero, List.set_cons_succ]
                      refine' Reg.wpG_take (i := 3) (oi := { dst := some 73, op := Op.load 33 (Operand.tmp 72), type := 33, pos := "law.go:179", after := #[{ on := 2, ground := Ground.data }], guard := none }) (v := _) [4, 5, 6, 7, 8, 9, 10, 11, 12, 13, 14, 15, 16, 17, 18, 19, 20, 21, 22, 23, 24, 25, 26, 27, 28, 29, 30, 31, 32, 33, 34, 35, 36, 37, 38, 39, 40, 41, 42, 43, 44, 45, 46, 47, 48] [] rfl rfl (by kernel_rfl) (by kernel_rfl) (by kernel_rfl) (by kernel_rfl) (by kernel_rfl) (by kernel_rfl) (by kernel_rfl) (fun _ _ _ h => h) (Or.inl ⟨by rfl, Or.inl ?hyN40⟩) ?restN40
                      case hyN40 => (intro w' kk ss; obtain ⟨u0, u1, u2⟩ := HC.out _ (hr0.trans kk); go_simp; first | done | with_reducible rfl)
                      try simp only [Act.put, List.setIfInBounds_toArray, List.set_cons_zero, List.set_cons_succ]
                      refine Reg.wpG_take (i := 4) (oi := { dst := some 74, op := Op.call { callee := Callee.value (Operand.func 28), args := #[Operand.tmp 73], argTypes := #[33] }, type := 4, pos := "law.go:179", after := #[{ on := 3, ground := Ground.data }], guard := none }) (v := .bool true) [5, 6, 7, 8, 9, 10, 11, 12, 13, 14, 15, 16, 17, 18, 19, 20, 21, 22, 23, 24, 25, 26, 27, 28, 29, 30, 31, 32, 33, 34, 35, 36, 37, 38, 39, 40, 41, 42, 43, 44, 45, 46, 47, 48] [] rfl rfl (by kernel_rfl) (by kernel_rfl) (by kernel_rfl) (by kernel_rfl) (by kernel_rfl) (by kernel_rfl) (by kernel_rfl) (fun _ _ _ h => h) (Or.inl ⟨by rfl, Or.inr ⟨28, #[.slice Bn pn dn], fun w' kk ss => ⟨?_, ?_⟩⟩⟩) ?_
                      · (try dsimp only at ss); go_simp
                      · exact (RT.out w' (hr0.trans kk)).mono fun e w'' h => ⟨h.1, h.2, trivial⟩
                      try simp only [Act.put, List.setIfInBounds_toArray, List.set_cons_zero, List.set_cons_succ]
                      refine' Reg.wpG_take (i := 5) (oi := { dst := some 75, op := Op.unOp UnOp.not 4 (Operand.tmp 74), type := 4, pos := "law.go:179", after := #[{ on := 4, ground := Ground.data }], guard := none }) (v := _) [6, 7, 8, 9, 10, 11, 12, 13, 14, 15, 16, 17, 18, 19, 20, 21, 22, 23, 24, 25, 26, 27, 28, 29, 30, 31, 32, 33, 34, 35, 36, 37, 38, 39, 40, 41, 42, 43, 44, 45, 46, 47, 48] [] rfl rfl (by kernel_rfl) (by kernel_rfl) (by kernel_rfl) (by kernel_rfl) (by kernel_rfl) (by kernel_rfl) (by kernel_rfl) (fun _ _ _ h => h) (Or.inl ⟨by rfl, Or.inl ?hyN41⟩) ?restN41
                      case hyN41 => (intro w' kk ss; obtain ⟨u0, u1, u2⟩ := HC.out _ (hr0.trans kk); go_simp; first | done | with_reducible rfl)
                      try simp only [Act.put, List.setIfInBounds_toArray, List.set_cons_zero, List.set_cons_succ]
                      refine' Reg.wpG_take (i := 6) (oi := { dst := some 76, op := Op.move (Operand.tmp 75), type := 4, pos := "law.go:179", after := #[{ on := 5, ground := Ground.data }, { on := 4, ground := Ground.chain }], guard := none }) (v := _) [7, 8, 9, 10, 11, 12, 13, 14, 15, 16, 17, 18, 19, 20, 21, 22, 23, 24, 25, 26, 27, 28, 29, 30, 31, 32, 33, 34, 35, 36, 37, 38, 39, 40, 41, 42, 43, 44, 45, 46, 47, 48] [] rfl rfl (by kernel_rfl) (by kernel_rfl) (by kernel_rfl) (by kernel_rfl) (by kernel_rfl) (by kernel_rfl) (by kernel_rfl) (fun _ _ _ h => h) (Or.inl ⟨by rfl, Or.inl ?hyN42⟩) ?restN42
                      case hyN42 => (intro w' kk ss; obtain ⟨u0, u1, u2⟩ := HC.out _ (hr0.trans kk); go_simp; first | done | with_reducible rfl)
                      try simp only [Act.put, List.setIfInBounds_toArray, List.set_cons_zero, List.set_cons_succ]
                      refine' Reg.wpG_take (i := 7) (oi := { dst := some 77, op := Op.move (Operand.tmp 11), type := 22, pos := "law.go:179", after := #[{ on := 6, ground := Ground.guard }], guard := some (6, false) }) (v := _) [9, 10, 11, 12, 13, 14, 15, 16, 17, 18, 19, 20, 21, 22, 23, 24, 25, 26, 27, 28, 29, 30, 31, 32, 33, 34, 35, 36, 37, 38, 39, 40, 41, 42, 43, 44, 45, 46, 47, 48] [] rfl rfl (by kernel_rfl) (by kernel_rfl) (by kernel_rfl) (by kernel_rfl) (by kernel_rfl) (by kernel_rfl) (by kernel_rfl) (fun _ _ _ h => h) (Or.inl ⟨by rfl, Or.inl ?hyN43⟩) ?restN43
                      case hyN43 => (intro w' kk ss; obtain ⟨u0, u1, u2⟩ := HC.out _ (hr0.trans kk); go_simp; first | done | with_reducible rfl)
                      try simp only [Act.put, List.setIfInBounds_toArray, List.set_cons_zero, List.set_cons_succ]
                      refine' Reg.wpG_take (i := 8) (oi := { dst := some 78, op := Op.move (Operand.tmp 12), type := 3, pos := "law.go:179", after := #[{ on := 6, ground := Ground.guard }], guard := some (6, false) }) (v := _) [9, 10, 11, 12, 13, 14, 15, 16, 17, 18, 19, 20, 21, 22, 23, 24, 25, 26, 27, 28, 29, 30, 31, 32, 33, 34, 35, 36, 37, 38, 39, 40, 41, 42, 43, 44, 45, 46, 47, 48] [] rfl rfl (by kernel_rfl) (by kernel_rfl) (by kernel_rfl) (by kernel_rfl) (by kernel_rfl) (by kernel_rfl) (by kernel_rfl) (fun _ _ _ h => h) (Or.inl ⟨by rfl, Or.inl ?hyN44⟩) ?restN44
                      case hyN44 => (intro w' kk ss; obtain ⟨u0, u1, u2⟩ := HC.out _ (hr0.trans kk); go_simp; first | done | with_reducible rfl)
                      try simp only [Act.put, List.setIfInBounds_toArray, List.set_cons_zero, List.set_cons_succ]
                      refine' Reg.wpG_take (i := 9) (oi := { dst := some 79, op := Op.indexAddr 22 (Operand.tmp 77) (Operand.tmp 78), type := 0, pos := "law.go:179", after := #[{ on := 7, ground := Ground.data }, { on := 8, ground := Ground.data }, { on := 6, ground := Ground.guard }], guard := some (6, false) }) (v := _) [10, 11, 12, 13, 14, 15, 16, 17, 18, 19, 20, 21, 22, 23, 24, 25, 26, 27, 28, 29, 30, 31, 32, 33, 34, 35, 36, 37, 38, 39, 40, 41, 42, 43, 44, 45, 46, 47, 48] [] rfl rfl (by kernel_rfl) (by kernel_rfl) (by kernel_rfl) (by kernel_rfl) (by kernel_rfl) (by kernel_rfl) (by kernel_rfl) (fun _ _ _ h => h) (Or.inl ⟨by rfl, Or.inl ?hyN45⟩) ?restN45
                      case hyN45 => (intro w' kk ss; obtain ⟨u0, u1, u2⟩ := HC.out _ (hr0.trans kk); go_simp; first | done | with_reducible rfl)
                      try simp only [Act.put, List.setIfInBounds_toArray, List.set_cons_zero, List.set_cons_succ]
                      refine' Reg.wpG_take (i := 10) (oi := { dst := some 80, op := Op.load 33 (Operand.tmp 79), type := 33, pos := "law.go:179", after := #[{ on := 9, ground := Ground.data }, { on := 6, ground := Ground.guard }], guard := some (6, false) }) (v := _) [11, 12, 13, 14, 15, 16, 17, 18, 19, 20, 21, 22, 23, 24, 25, 26, 27, 28, 29, 30, 31, 32, 33, 34, 35, 36, 37, 38, 39, 40, 41, 42, 43, 44, 45, 46, 47, 48] [] rfl rfl (by kernel_rfl) (by kernel_rfl) (by kernel_rfl) (by kernel_rfl) (by kernel_rfl) (by kernel_rfl) (by kernel_rfl) (fun _ _ _ h => h) (Or.inl ⟨by rfl, Or.inl ?hyN46⟩) ?restN46
                      case hyN46 => (intro w' kk ss; obtain ⟨u0, u1, u2⟩ := HC.out _ (hr0.trans kk); go_simp; first | done | with_reducible rfl)
                      try simp only [Act.put, List.setIfInBounds_toArray, List.set_cons_zero, List.set_cons_succ]
                      refine' Reg.wpG_take (i := 11) (oi := { dst := some 81, op := Op.call { callee := Callee.builtin Builtin.len, args := #[Operand.tmp 80], argTypes := #[33] }, type := 3, pos := "law.go:179", after := #[{ on := 10, ground := Ground.data }, { on := 6, ground := Ground.guard }], guard := some (6, false) }) (v := _) [12, 13, 14, 15, 16, 17, 18, 19, 20, 21, 22, 23, 24, 25, 26, 27, 28, 29, 30, 31, 32, 33, 34, 35, 36, 37, 38, 39, 40, 41, 42, 43, 44, 45, 46, 47, 48] [] rfl rfl (by kernel_rfl) (by kernel_rfl) (by kernel_rfl) (by kernel_rfl) (by kernel_rfl) (by kernel_rfl) (by kernel_rfl) (fun _ _ _ h => h) (Or.inl ⟨by rfl, Or.inl ?hyN47⟩) ?restN47
                      case hyN47 => (intro w' kk ss; obtain ⟨u0, u1, u2⟩ := HC.out _ (hr0.trans kk); go_simp; first | done | with_reducible rfl)
                      try simp only [Act.put, List.setIfInBounds_toArray, List.set_cons_zero, List.set_cons_succ]
                      refine' Reg.wpG_take (i := 12) (oi := { dst := some 82, op := Op.binOp BinOp.eql 3 (Operand.tmp 81) (Operand.const (Value.int IntKind.i64 0)) 3, type := 4, pos := "law.go:179", after := #[{ on := 11, ground := Ground.data }, { on := 6, ground := Ground.guard }], guard := some (6, false) }) (v := _) [13, 14, 15, 16, 17, 18, 19, 20, 21, 22, 23, 24, 25, 26, 27, 28, 29, 30, 31, 32, 33, 34, 35, 36, 37, 38, 39, 40, 41, 42, 43, 44, 45, 46, 47, 48] [] rfl rfl (by kernel_rfl) (by kernel_rfl) (by kernel_rfl) (by kernel_rfl) (by kernel_rfl) (by kernel_rfl) (by kernel_rfl) (fun _ _ _ h => h) (Or.inl ⟨by rfl, Or.inl ?hyN48⟩) ?restN48
                      case hyN48 => (intro w' kk ss; obtain ⟨u0, u1, u2⟩ := HC.out _ (hr0.trans kk); go_simp; first | done | with_reducible rfl)
                      try simp only [Act.put, List.setIfInBounds_toArray, List.set_cons_zero, List.set_cons_succ]
                      refine' Reg.wpG_take (i := 13) (oi := { dst := some 83, op := Op.pick (Operand.tmp 76) (Operand.const (Value.bool true)) (Operand.tmp 82), type := 4, pos := "law.go:179", after := #[{ on := 6, ground := Ground.data }, { on := 12, ground := Ground.data }], guard := none }) (v := _) [14, 15, 16, 17, 18, 19, 20, 21, 22, 23, 24, 25, 26, 27, 28, 29, 30, 31, 32, 33, 34, 35, 36, 37, 38, 39, 40, 41, 42, 43, 44, 45, 46, 47, 48] [] rfl rfl (by kernel_rfl) (by kernel_rfl) (by kernel_rfl) (by kernel_rfl) (by kernel_rfl) (by kernel_rfl) (by kernel_rfl) (fun _ _ _ h => h) (Or.inl ⟨by rfl, Or.inl ?hyN49⟩) ?restN49
                      case hyN49 => (intro w' kk ss; obtain ⟨u0, u1, u2⟩ := HC.out _ (hr0.trans kk); go_simp; first | done | with_reducible rfl)
                      try simp only [Act.put, List.setIfInBounds_toArray, List.set_cons_zero, List.set_cons_succ]
                      refine' Reg.wpG_take (i := 14) (oi := { dst := some 84, op := Op.move (Operand.tmp 83), type := 4, pos := "law.go:179", after := #[{ on := 13, ground := Ground.data }, { on := 6, ground := Ground.chain }], guard := none }) (v := _) [15, 16, 17, 18, 19, 20, 21, 22, 23, 24, 25, 26, 27, 28, 29, 30, 31, 32, 33, 34, 35, 36, 37, 38, 39, 40, 41, 42, 43, 44, 45, 46, 47, 48] [] rfl rfl (by kernel_rfl) (by kernel_rfl) (by kernel_rfl) (by kernel_rfl) (by kernel_rfl) (by kernel_rfl) (by kernel_rfl) (fun _ _ _ h => h) (Or.inl ⟨by rfl, Or.inl ?hyN50⟩) ?restN50
                      case hyN50 => (intro w' kk ss; obtain ⟨u0, u1, u2⟩ := HC.out _ (hr0.trans kk); go_simp; first | done | with_reducible rfl)
                      try simp only [Act.put, List.setIfInBounds_toArray, List.set_cons_zero, List.set_cons_succ]
                      refine' Reg.wpG_take (i := 15) (oi := { dst := some 85, op := Op.move (Operand.tmp 11), type := 22, pos := "law.go:179", after := #[{ on := 14, ground := Ground.guard }], guard := some (14, false) }) (v := _) [17, 18, 23, 28, 29, 30, 31, 32, 33, 34, 35, 36, 37, 38, 39, 40, 41, 42, 43, 44, 45, 46, 47, 48] [] rfl rfl (by kernel_rfl) (by kernel_rfl) (by kernel_rfl) (by kernel_rfl) (by kernel_rfl) (by kernel_rfl) (by kernel_rfl) (fun _ _ _ h => h) (Or.inl ⟨by rfl, Or.inl ?hyN51⟩) ?restN51
                      case hyN51 => (intro w' kk ss; obtain ⟨u0, u1, u2⟩ := HC.out _ (hr0.trans kk); go_simp; first | done | with_reducible rfl)
                      try simp only [Act.put, List.setIfInBounds_toArray, List.set_cons_zero, List.set_cons_succ]
                      refine' Reg.wpG_take (i := 16) (oi := { dst := some 86, op := Op.move (Operand.tmp 12), type := 3, pos := "law.go:179", after := #[{ on := 14, ground := Ground.guard }], guard := some (14, false) }) (v := _) [17, 18, 23, 28, 29, 30, 31, 32, 33, 34, 35, 36, 37, 38, 39, 40, 41, 42, 43, 44, 45, 46, 47, 48] [] rfl rfl (by kernel_rfl) (by kernel_rfl) (by kernel_rfl) (by kernel_rfl) (by kernel_rfl) (by kernel_rfl) (by kernel_rfl) (fun _ _ _ h => h) (Or.inl ⟨by rfl, Or.inl ?hyN52⟩) ?restN52
                      case hyN52 => (intro w' kk ss; obtain ⟨u0, u1, u2⟩ := HC.out _ (hr0.trans kk); go_simp; first | done | with_reducible rfl)
                      try simp only [Act.put, List.setIfInBounds_toArray, List.set_cons_zero, List.set_cons_succ]
                      refine' Reg.wpG_take (i := 17) (oi := { dst := some 87, op := Op.indexAddr 22 (Operand.tmp 85) (Operand.tmp 86), type := 0, pos := "law.go:179", after := #[{ on := 15, ground := Ground.data }, { on := 16, ground := Ground.data }, { on := 14, ground := Ground.guard }], guard := some (14, false) }) (v := _) [18, 23, 28, 29, 30, 31, 32, 33, 34, 35, 36, 37, 38, 39, 40, 41, 42, 43, 44, 45, 46, 47, 48] [] rfl rfl (by kernel_rfl) (by kernel_rfl) (by kernel_rfl) (by kernel_rfl) (by kernel_rfl) (by kernel_rfl) (by kernel_rfl) (fun _ _ _ h => h) (Or.inl ⟨by rfl, Or.inl ?hyN53⟩) ?restN53
                      case hyN53 => (intro w' kk ss; obtain ⟨u0, u1, u2⟩ := HC.out _ (hr0.trans kk); go_simp; first | done | with_reducible rfl)
                      try simp only [Act.put, List.setIfInBounds_toArray, List.set_cons_zero, List.set_cons_succ]
                      refine' Reg.wpG_take (i := 18) (oi := { dst := some 88, op := Op.load 33 (Operand.tmp 87), type := 33, pos := "law.go:179", after := #[{ on := 17, ground := Ground.data }, { on := 14, ground := Ground.guard }], guard := some (14, false) }) (v := _) [23, 28, 29, 30, 31, 32, 33, 34, 35, 36, 37, 38, 39, 40, 41, 42, 43, 44, 45, 46, 47, 48] [] rfl rfl (by kernel_rfl) (by kernel_rfl) (by kernel_rfl) (by kernel_rfl) (by kernel_rfl) (by kernel_rfl) (by kernel_rfl) (fun _ _ _ h => h) (Or.inl ⟨by rfl, Or.inl ?hyN54⟩) ?restN54
                      case hyN54 => (intro w' kk ss; obtain ⟨u0, u1, u2⟩ := HC.out _ (hr0.trans kk); go_simp; first | done | with_reducible rfl)
                      try simp only [Act.put, List.setIfInBounds_toArray, List.set_cons_zero, List.set_cons_succ]
                      refine' Reg.wpG_take (i := 19) (oi := { dst := some 89, op := Op.move (Operand.tmp 8), type := 22, pos := "law.go:179", after := #[{ on := 14, ground := Ground.guard }], guard := some (14, false) }) (v := _) [21, 22, 23, 28, 29, 30, 31, 32, 33, 34, 35, 36, 37, 38, 39, 40, 41, 42, 43, 44, 45, 46, 47, 48] [] rfl rfl (by kernel_rfl) (by kernel_rfl) (by kernel_rfl) (by kernel_rfl) (by kernel_rfl) (by kernel_rfl) (by kernel_rfl) (fun _ _ _ h => h) (Or.inl ⟨by rfl, Or.inl ?hyN55⟩) ?restN55
                      case hyN55 => (intro w' kk ss; obtain ⟨u0, u1, u2⟩ := HC.out _ (hr0.trans kk); go_simp; first | done | with_reducible rfl)
                      try simp only [Act.put, List.setIfInBounds_toArray, List.set_cons_zero, List.set_cons_succ]
                      refine' Reg.wpG_take (i := 20) (oi := { dst := some 90, op := Op.move (Operand.tmp 12), type := 3, pos := "law.go:179", after := #[{ on := 14, ground := Ground.guard }], guard := some (14, false) }) (v := _) [21, 22, 23, 28, 29, 30, 31, 32, 33, 34, 35, 36, 37, 38, 39, 40, 41, 42, 43, 44, 45, 46, 47, 48] [] rfl rfl (by kernel_rfl) (by kernel_rfl) (by kernel_rfl) (by kernel_rfl) (by kernel_rfl) (by kernel_rfl) (by kernel_rfl) (fun _ _ _ h => h) (Or.inl ⟨by rfl, Or.inl ?hyN56⟩) ?restN56
                      case hyN56 => (intro w' kk ss; obtain ⟨u0, u1, u2⟩ := HC.out _ (hr0.trans kk); go_simp; first | done | with_reducible rfl)
                      try simp only [Act.put, List.setIfInBounds_toArray, List.set_cons_zero, List.set_cons_succ]
                      refine' Reg.wpG_take (i := 21) (oi := { dst := some 91, op := Op.indexAddr 22 (Operand.tmp 89) (Operand.tmp 90), type := 0, pos := "law.go:179", after := #[{ on := 19, ground := Ground.data }, { on := 20, ground := Ground.data }, { on := 14, ground := Ground.guard }], guard := some (14, false) }) (v := _) [22, 23, 28, 29, 30, 31, 32, 33, 34, 35, 36, 37, 38, 39, 40, 41, 42, 43, 44, 45, 46, 47, 48] [] rfl rfl (by kernel_rfl) (by kernel_rfl) (by kernel_rfl) (by kernel_rfl) (by kernel_rfl) (by kernel_rfl) (by kernel_rfl) (fun _ _ _ h => h) (Or.inl ⟨by rfl, Or.inl ?hyN57⟩) ?restN57
                      case hyN57 => (intro w' kk ss; obtain ⟨u0, u1, u2⟩ := HC.out _ (hr0.trans kk); go_simp; first | done | with_reducible rfl)
                      try simp only [Act.put, List.setIfInBounds_toArray, List.set_cons_zero, List.set_cons_succ]
                      refine' Reg.wpG_take (i := 22) (oi := { dst := some 92, op := Op.load 33 (Operand.tmp 91), type := 33, pos := "law.go:179", after := #[{ on := 21, ground := Ground.data }, { on := 14, ground := Ground.guard }], guard := some (14, false) }) (v := _) [23, 28, 29, 30, 31, 32, 33, 34, 35, 36, 37, 38, 39, 40, 41, 42, 43, 44, 45, 46, 47, 48] [] rfl rfl (by kernel_rfl) (by kernel_rfl) (by kernel_rfl) (by kernel_rfl) (by kernel_rfl) (by kernel_rfl) (by kernel_rfl) (fun _ _ _ h => h) (Or.inl ⟨by rfl, Or.inl ?hyN58⟩) ?restN58
                      case hyN58 => (intro w' kk ss; obtain ⟨u0, u1, u2⟩ := HC.out _ (hr0.trans kk); go_simp; first | done | with_reducible rfl)
                      try simp only [Act.put, List.setIfInBounds_toArray, List.set_cons_zero, List.set_cons_succ]
                      refine' Reg.wpG_take (i := 24) (oi := { dst := some 94, op := Op.move (Operand.tmp 11), type := 22, pos := "law.go:179", after := #[{ on := 14, ground := Ground.guard }], guard := some (14, false) }) (v := _) [26, 27, 28, 29, 30, 31, 32, 33, 34, 35, 36, 37, 38, 39, 40, 41, 42, 43, 44, 45, 46, 47, 48] [] rfl rfl (by kernel_rfl) (by kernel_rfl) (by kernel_rfl) (by kernel_rfl) (by kernel_rfl) (by kernel_rfl) (by kernel_rfl) (fun _ _ _ h => h) (Or.inl ⟨by rfl, Or.inl ?hyN59⟩) ?restN59
                      case hyN59 => (intro w' kk ss; obtain ⟨u0, u1, u2⟩ := HC.out _ (hr0.trans kk); go_simp; first | done | with_reducible rfl)
                      try simp only [Act.put, List.setIfInBounds_toArray, List.set_cons_zero, List.set_cons_succ]
                      refine' Reg.wpG_take (i := 25) (oi := { dst := some 95, op := Op.move (Operand.tmp 12), type := 3, pos := "law.go:179", after := #[{ on := 14, ground := Ground.guard }], guard := some (14, false) }) (v := _) [26, 27, 28, 29, 30, 31, 32, 33, 34, 35, 36, 37, 38, 39, 40, 41, 42, 43, 44, 45, 46, 47, 48] [] rfl rfl (by kernel_rfl) (by kernel_rfl) (by kernel_rfl) (by kernel_rfl) (by kernel_rfl) (by kernel_rfl) (by kernel_rfl) (fun _ _ _ h => h) (Or.inl ⟨by rfl, Or.inl ?hyN60⟩) ?restN60
                      case hyN60 => (intro w' kk ss; obtain ⟨u0, u1, u2⟩ := HC.out _ (hr0.trans kk); go_simp; first | done | with_reducible rfl)
                      try simp only [Act.put, List.setIfInBounds_toArray, List.set_cons_zero, List.set_cons_succ]
                      refine' Reg.wpG_take (i := 26) (oi := { dst := some 96, op := Op.indexAddr 22 (Operand.tmp 94) (Operand.tmp 95), type := 0, pos := "law.go:179", after := #[{ on := 24, ground := Ground.data }, { on := 25, ground := Ground.data }, { on := 14, ground := Ground.guard }], guard := some (14, false) }) (v := _) [27, 28, 29, 30, 31, 32, 33, 34, 35, 36, 37, 38, 39, 40, 41, 42, 43, 44, 45, 46, 47, 48] [] rfl rfl (by kernel_rfl) (by kernel_rfl) (by kernel_rfl) (by kernel_rfl) (by kernel_rfl) (by kernel_rfl) (by kernel_rfl) (fun _ _ _ h => h) (Or.inl ⟨by rfl, Or.inl ?hyN61⟩) ?restN61
                      case hyN61 => (intro w' kk ss; obtain ⟨u0, u1, u2⟩ := HC.out _ (hr0.trans kk); go_simp; first | done | with_reducible rfl)
                      try simp only [Act.put, List.setIfInBounds_toArray, List.set_cons_zero, List.set_cons_succ]
                      refine' Reg.wpG_take (i := 27) (oi := { dst := some 97, op := Op.load 33 (Operand.tmp 96), type := 33, pos := "law.go:179", after := #[{ on := 26, ground := Ground.data }, { on := 14, ground := Ground.guard }], guard := some (14, false) }) (v := _) [28, 29, 30, 31, 32, 33, 34, 35, 36, 37, 38, 39, 40, 41, 42, 43, 44, 45, 46, 47, 48] [] rfl rfl (by kernel_rfl) (by kernel_rfl) (by kernel_rfl) (by kernel_rfl) (by kernel_rfl) (by kernel_rfl) (by kernel_rfl) (fun _ _ _ h => h) (Or.inl ⟨by rfl, Or.inl ?hyN62⟩) ?restN62
                      case hyN62 => (intro w' kk ss; obtain ⟨u0, u1, u2⟩ := HC.out _ (hr0.trans kk); go_simp; first | done | with_reducible rfl)
                      try simp only [Act.put, List.setIfInBounds_toArray, List.set_cons_zero, List.set_cons_succ]
                      refine Reg.wpG_ready (rs := [23]) (by kernel_rfl) (by simp) (fun wa1 ka1 sa1 => ?_)
                      have hr0 := hr0.trans ka1
                      have hgb1 := hr0.size
                      refine Reg.AllG.first (o := { dst := some 93, op := Op.call { callee := Callee.value (Operand.func 30), args := #[Operand.tmp 88, Operand.tmp 92], argTypes := #[33, 33] }, type := 33, pos := "law.go:179", after := #[{ on := 18, ground := Ground.data }, { on := 22, ground := Ground.data }, { on := 14, ground := Ground.chain }, { on := 14, ground := Ground.guard }], guard := some (14, false) }) rfl (by rfl) (fun K hK => ?_) Reg.AllG.nil
                      go_simp
                      (with_reducible refine (MT.out wa1 hr0).mono ?_)
                      rintro e ya1 ⟨A9, m9, c9, rfl, -, h9, hx⟩
                      refine hK.out _ _ trivial hx ?_
                      clear hK K
                      have hr0 := hr0.trans hx
                      try simp only [Act.put, List.setIfInBounds_toArray, List.set_cons_zero, List.set_cons_succ]
                      refine Reg.wpG_ready (rs := [28]) (by kernel_rfl) (by simp) (fun wa2 ka2 sa2 => ?_)
                      have hr0 := hr0.trans ka2
                      have hgb2 := hr0.size
                      have h9 := h9.since stR ka2
                      refine Reg.AllG.first (o := { dst := some 98, op := Op.call { callee := Callee.value (Operand.func 29), args := #[Operand.tmp 93, Operand.tmp 97], argTypes := #[33, 33] }, type := 4, pos := "law.go:179", after := #[{ on := 23, ground := Ground.data }, { on := 27, ground := Ground.data }, { on := 23, ground := Ground.chain }, { on := 14, ground := Ground.guard }], guard := some (14, false) }) rfl (by rfl) (fun K hK => ?_) Reg.AllG.nil
                      go_simp
                      (with_reducible refine (SM.out wa2 hr0 _ h9).mono ?_)
                      rintro e ya2 ⟨rfl, hx⟩
                      refine hK.out _ _ trivial hx ?_
                      clear hK K
                      have hr0 := hr0.trans hx
                      have h9 := h9.since stR hx
                      try simp only [Act.put, List.setIfInBounds_toArray, List.set_cons_zero, List.set_cons_succ]
                      refine' Reg.wpG_take (i := 29) (oi := { dst := some 99, op := Op.unOp UnOp.not 4 (Operand.tmp 98), type := 4, pos := "law.go:179", after := #[{ on := 28, ground := Ground.data }, { on := 14, ground := Ground.guard }], guard := some (14, false) }) (v := _) [30, 31, 32, 33, 34, 35, 36, 37, 38, 39, 40, 41, 42, 43, 44, 45, 46, 47, 48] [] rfl rfl (by kernel_rfl) (by kernel_rfl) (by kernel_rfl) (by kernel_rfl) (by kernel_rfl) (by kernel_rfl) (by kernel_rfl) (fun _ _ _ h => h) (Or.inl ⟨by rfl, Or.inl ?hyN63⟩) ?restN63
                      case hyN63 => (intro w' kk ss; obtain ⟨u0, u1, u2⟩ := HC.out _ (hr0.trans kk); go_simp; first | done | with_reducible rfl)
                      try simp only [Act.put, List.setIfInBounds_toArray, List.set_cons_zero, List.set_cons_succ]
                      refine' Reg.wpG_take (i := 30) (oi := { dst := some 100, op := Op.pick (Operand.tmp 84) (Operand.const (Value.bool true)) (Operand.tmp 99), type := 4, pos := "law.go:179", after := #[{ on := 14, ground := Ground.data }, { on := 29, ground := Ground.data }], guard := none }) (v := _) [31, 32, 33, 34, 35, 36, 37, 38, 39, 40, 41, 42, 43, 44, 45, 46, 47, 48] [] rfl rfl (by kernel_rfl) (by kernel_rfl) (by kernel_rfl) (by kernel_rfl) (by kernel_rfl) (by kernel_rfl) (by kernel_rfl) (fun _ _ _ h => h) (Or.inl ⟨by rfl, Or.inl ?hyN64⟩) ?restN64
                      case hyN64 => (intro w' kk ss; obtain ⟨u0, u1, u2⟩ := HC.out _ (hr0.trans kk); go_simp; first | done | with_reducible rfl)
                      try simp only [Act.put, List.setIfInBounds_toArray, List.set_cons_zero, List.set_cons_succ]
                      refine' Reg.wpG_take (i := 31) (oi := { dst := some 101, op := Op.move (Operand.tmp 100), type := 4, pos := "law.go:179", after := #[{ on := 30, ground := Ground.data }, { on := 28, ground := Ground.chain }], guard := none }) (v := _) [32, 33, 34, 35, 36, 37, 38, 39, 40, 41, 42, 43, 44, 45, 46, 47, 48] [] rfl rfl (by kernel_rfl) (by kernel_rfl) (by kernel_rfl) (by kernel_rfl) (by kernel_rfl) (by kernel_rfl) (by kernel_rfl) (fun _ _ _ h => h) (Or.inl ⟨by rfl, Or.inl ?hyN65⟩) ?restN65
                      case hyN65 => (intro w' kk ss; obtain ⟨u0, u1, u2⟩ := HC.out _ (hr0.trans kk); go_simp; first | done | with_reducible rfl)
                      try simp only [Act.put, List.setIfInBounds_toArray, List.set_cons_zero, List.set_cons_succ]
                      refine' Reg.wpG_take (i := 32) (oi := { dst := some 102, op := Op.move (Operand.tmp 12), type := 3, pos := "law.go:179", after := #[{ on := 31, ground := Ground.guard }], guard := some (31, false) }) (v := _) [35, 36, 37, 38, 39, 40, 41, 42, 43, 44, 45, 46, 47, 48] [] rfl rfl (by kernel_rfl) (by kernel_rfl) (by kernel_rfl) (by kernel_rfl) (by kernel_rfl) (by kernel_rfl) (by kernel_rfl) (fun _ _ _ h => h) (Or.inl ⟨by rfl, Or.inl ?hyN66⟩) ?restN66
                      case hyN66 => (intro w' kk ss; obtain ⟨u0, u1, u2⟩ := HC.out _ (hr0.trans kk); go_simp; first | done | with_reducible rfl)
                      try simp only [Act.put, List.setIfInBounds_toArray, List.set_cons_zero, List.set_cons_succ]
                      refine' Reg.wpG_take (i := 33) (oi := { dst := some 103, op := Op.fieldAddr 35 (Operand.tmp 7) 1, type := 0, pos := "law.go:179", after := #[{ on := 31, ground := Ground.guard }], guard := some (31, false) }) (v := _) [34, 35, 36, 37, 38, 39, 40, 41, 42, 43, 44, 45, 46, 47, 48] [] rfl rfl (by kernel_rfl) (by kernel_rfl) (by kernel_rfl) (by kernel_rfl) (by kernel_rfl) (by kernel_rfl) (by kernel_rfl) (fun _ _ _ h => h) (Or.inl ⟨by rfl, Or.inl ?hyN67⟩) ?restN67
                      case hyN67 => (intro w' kk ss; obtain ⟨u0, u1, u2⟩ := HC.out _ (hr0.trans kk); go_simp; first | done | with_reducible rfl)
                      try simp only [Act.put, List.setIfInBounds_toArray, List.set_cons_zero, List.set_cons_succ]
                      refine' Reg.wpG_take (i := 34) (oi := { dst := some 104, op := Op.load 3 (Operand.tmp 103), type := 3, pos := "law.go:179", after := #[{ on := 33, ground := Ground.data }, { on := 31, ground := Ground.guard }], guard := some (31, false) }) (v := _) [35, 36, 37, 38, 39, 40, 41, 42, 43, 44, 45, 46, 47, 48] [] rfl rfl (by kernel_rfl) (by kernel_rfl) (by kernel_rfl) (by kernel_rfl) (by kernel_rfl) (by kernel_rfl) (by kernel_rfl) (fun _ _ _ h => h) (Or.inl ⟨by rfl, Or.inl ?hyN68⟩) ?restN68
                      case hyN68 => (intro w' kk ss; obtain ⟨u0, u1, u2⟩ := HC.out _ (hr0.trans kk); go_simp; first | done | with_reducible rfl)
                      try simp only [Act.put, List.setIfInBounds_toArray, List.set_cons_zero, List.set_cons_succ]
                      refine' Reg.wpG_take (i := 35) (oi := { dst := some 105, op := Op.binOp BinOp.neq 3 (Operand.tmp 102) (Operand.tmp 104) 3, type := 4, pos := "law.go:179", after := #[{ on := 32, ground := Ground.data }, { on := 34, ground := Ground.data }, { on := 31, ground := Ground.guard }], guard := some (31, false) }) (v := _) [36, 37, 38, 39, 40, 41, 42, 43, 44, 45, 46, 47, 48] [] rfl rfl (by kernel_rfl) (by kernel_rfl) (by kernel_rfl) (by kernel_rfl) (by kernel_rfl) (by kernel_rfl) (by kernel_rfl) (fun _ _ _ h => h) (Or.inl ⟨by rfl, Or.inl ?hyN69⟩) ?restN69
                      case hyN69 => (intro w' kk ss; obtain ⟨u0, u1, u2⟩ := HC.out _ (hr0.trans kk); go_simp; first | done | with_reducible rfl)
                      try simp only [Act.put, List.setIfInBounds_toArray, List.set_cons_zero, List.set_cons_succ]
                      refine' Reg.wpG_take (i := 36) (oi := { dst := some 106, op := Op.move (Operand.tmp 105), type := 4, pos := "law.go:179", after := #[{ on := 35, ground := Ground.data }, { on := 31, ground := Ground.chain }, { on := 31, ground := Ground.guard }], guard := some (31, false) }) (v := _) [37, 38, 39, 40, 41, 42, 43, 44, 45, 46, 47, 48] [] rfl rfl (by kernel_rfl) (by kernel_rfl) (by kernel_rfl) (by kernel_rfl) (by kernel_rfl) (by kernel_rfl) (by kernel_rfl) (fun _ _ _ h => h) (Or.inl ⟨by rfl, Or.inl ?hyN70⟩) ?restN70
                      case hyN70 => (intro w' kk ss; obtain ⟨u0, u1, u2⟩ := HC.out _ (hr0.trans kk); go_simp; first | done | with_reducible rfl)
                      try simp only [Act.put, List.setIfInBounds_toArray, List.set_cons_zero, List.set_cons_succ]
                      refine' Reg.wpG_take (i := 37) (oi := { dst := some 107, op := Op.move (Operand.tmp 8), type := 22, pos := "law.go:179", after := #[{ on := 36, ground := Ground.guard }], guard := some (36, true) }) (v := _) [39, 40, 45, 46, 47, 48] [] rfl rfl (by kernel_rfl) (by kernel_rfl) (by kernel_rfl) (by kernel_rfl) (by kernel_rfl) (by kernel_rfl) (by kernel_rfl) (fun _ _ _ h => h) (Or.inl ⟨by rfl, Or.inl ?hyN71⟩) ?restN71
                      case hyN71 => (intro w' kk ss; obtain ⟨u0, u1, u2⟩ := HC.out _ (hr0.trans kk); go_simp; first | done | with_reducible rfl)
                      try simp only [Act.put, List.setIfInBounds_toArray, List.set_cons_zero, List.set_cons_succ]
                      refine' Reg.wpG_take (i := 38) (oi := { dst := some 108, op := Op.move (Operand.tmp 12), type := 3, pos := "law.go:179", after := #[{ on := 36, ground := Ground.guard }], guard := some (36, true) }) (v := _) [39, 40, 45, 46, 47, 48] [] rfl rfl (by kernel_rfl) (by kernel_rfl) (by kernel_rfl) (by kernel_rfl) (by kernel_rfl) (by kernel_rfl) (by kernel_rfl) (fun _ _ _ h => h) (Or.inl ⟨by rfl, Or.inl ?hyN72⟩) ?restN72
                      case hyN72 => (intro w' kk ss; obtain ⟨u0, u1, u2⟩ := HC.out _ (hr0.trans kk); go_simp; first | done | with_reducible rfl)
                      try simp only [Act.put, List.setIfInBounds_toArray, List.set_cons_zero, List.set_cons_succ]
                      refine' Reg.wpG_take (i := 39) (oi := { dst := some 109, op := Op.indexAddr 22 (Operand.tmp 107) (Operand.tmp 108), type := 0, pos := "law.go:179", after := #[{ on := 37, ground := Ground.data }, { on := 38, ground := Ground.data }, { on := 36, ground := Ground.guard }], guard := some (36, true) }) (v := _) [40, 45, 46, 47, 48] [] rfl rfl (by kernel_rfl) (by kernel_rfl) (by kernel_rfl) (by kernel_rfl) (by kernel_rfl) (by kernel_rfl) (by kernel_rfl) (fun _ _ _ h => h) (Or.inl ⟨by rfl, Or.inl ?hyN73⟩) ?restN73
                      case hyN73 => (intro w' kk ss; obtain ⟨u0, u1, u2⟩ := HC.out _ (hr0.trans kk); go_simp; first | done | with_reducible rfl)
                      try simp only [Act.put, List.setIfInBounds_toArray, List.set_cons_zero, List.set_cons_succ]
                      refine' Reg.wpG_take (i := 40) (oi := { dst := some 110, op := Op.load 33 (Operand.tmp 109), type := 33, pos := "law.go:179", after := #[{ on := 39, ground := Ground.data }, { on := 36, ground := Ground.guard }], guard := some (36, true) }) (v := _) [45, 46, 47, 48] [] rfl rfl (by kernel_rfl) (by kernel_rfl) (by kernel_rfl) (by kernel_rfl) (by kernel_rfl) (by kernel_rfl) (by kernel_rfl) (fun _ _ _ h => h) (Or.inl ⟨by rfl, Or.inl ?hyN74⟩) ?restN74
                      case hyN74 => (intro w' kk ss; obtain ⟨u0, u1, u2⟩ := HC.out _ (hr0.trans kk); go_simp; first | done | with_reducible rfl)
                      try simp only [Act.put, List.setIfInBounds_toArray, List.set_cons_zero, List.set_cons_succ]
                      refine' Reg.wpG_take (i := 41) (oi := { dst := some 111, op := Op.move (Operand.tmp 11), type := 22, pos := "law.go:179", after := #[{ on := 36, ground := Ground.guard }], guard := some (36, true) }) (v := _) [43, 44, 45, 46, 47, 48] [] rfl rfl (by kernel_rfl) (by kernel_rfl) (by kernel_rfl) (by kernel_rfl) (by kernel_rfl) (by kernel_rfl) (by kernel_rfl) (fun _ _ _ h => h) (Or.inl ⟨by rfl, Or.inl ?hyN75⟩) ?restN75
                      case hyN75 => (intro w' kk ss; obtain ⟨u0, u1, u2⟩ := HC.out _ (hr0.trans kk); go_simp; first | done | with_reducible rfl)
                      try simp only [Act.put, List.setIfInBounds_toArray, List.set_cons_zero, List.set_cons_succ]
                      refine' Reg.wpG_take (i := 42) (oi := { dst := some 112, op := Op.move (Operand.tmp 12), type := 3, pos := "law.go:179", after := #[{ on := 36, ground := Ground.guard }], guard := some (36, true) }) (v := _) [43, 44, 45, 46, 47, 48] [] rfl rfl (by kernel_rfl) (by kernel_rfl) (by kernel_rfl) (by kernel_rfl) (by kernel_rfl) (by kernel_rfl) (by kernel_rfl) (fun _ _ _ h => h) (Or.inl ⟨by rfl, Or.inl ?hyN76⟩) ?restN76
                      case hyN76 => (intro w' kk ss; obtain ⟨u0, u1, u2⟩ := HC.out _ (hr0.trans kk); go_simp; first | done | with_reducible rfl)
                      try simp only [Act.put, List.setIfInBounds_toArray, List.set_cons_zero, List.set_cons_succ]
                      refine' Reg.wpG_take (i := 43) (oi := { dst := some 113, op := Op.indexAddr 22 (Operand.tmp 111) (Operand.tmp 112), type := 0, pos := "law.go:179", after := #[{ on := 41, ground := Ground.data }, { on := 42, ground := Ground.data }, { on := 36, ground := Ground.guard }], guard := some (36, true) }) (v := _) [44, 45, 46, 47, 48] [] rfl rfl (by kernel_rfl) (by kernel_rfl) (by kernel_rfl) (by kernel_rfl) (by kernel_rfl) (by kernel_rfl) (by kernel_rfl) (fun _ _ _ h => h) (Or.inl ⟨by rfl, Or.inl ?hyN77⟩) ?restN77
                      case hyN77 => (intro w' kk ss; obtain ⟨u0, u1, u2⟩ := HC.out _ (hr0.trans kk); go_simp; first | done | with_reducible rfl)
                      try simp only [Act.put, List.setIfInBounds_toArray, List.set_cons_zero, List.set_cons_succ]
                      refine' Reg.wpG_take (i := 44) (oi := { dst := some 114, op := Op.load 33 (Operand.tmp 113), type := 33, pos := "law.go:179", after := #[{ on := 43, ground := Ground.data }, { on := 36, ground := Ground.guard }], guard := some (36, true) }) (v := _) [45, 46, 47, 48] [] rfl rfl (by kernel_rfl) (by kernel_rfl) (by kernel_rfl) (by kernel_rfl) (by kernel_rfl) (by kernel_rfl) (by kernel_rfl) (fun _ _ _ h => h) (Or.inl ⟨by rfl, Or.inl ?hyN78⟩) ?restN78
                      case hyN78 => (intro w' kk ss; obtain ⟨u0, u1, u2⟩ := HC.out _ (hr0.trans kk); go_simp; first | done | with_reducible rfl)
                      try simp only [Act.put, List.setIfInBounds_toArray, List.set_cons_zero, List.set_cons_succ]
                      refine Reg.wpG_take (i := 45) (oi := { dst := some 115, op := Op.call { callee := Callee.value (Operand.func 25), args := #[Operand.tmp 110, Operand.tmp 114], argTypes := #[33, 33] }, type := 4, pos := "law.go:179", after := #[{ on := 40, ground := Ground.data }, { on := 44, ground := Ground.data }, { on := 36, ground := Ground.chain }, { on := 36, ground := Ground.guard }], guard := some (36, true) }) (v := .bool true) [46, 47, 48] [] rfl rfl (by kernel_rfl) (by kernel_rfl) (by kernel_rfl) (by kernel_rfl) (by kernel_rfl) (by kernel_rfl) (by kernel_rfl) (fun _ _ _ h => h) (Or.inl ⟨by rfl, Or.inr ⟨25, #[.slice Bw pw dw, .slice Bn pn dn], fun w' kk ss => ⟨?_, ?_⟩⟩⟩) ?_
                      · (try dsimp only at ss); go_simp
                      · exact (RA.out w' (hr0.trans kk)).mono fun e w'' h => ⟨h.1, h.2, trivial⟩
                      try simp only [Act.put, List.setIfInBounds_toArray, List.set_cons_zero, List.set_cons_succ]
                      refine' Reg.wpG_take (i := 46) (oi := { dst := some 116, op := Op.unOp UnOp.not 4 (Operand.tmp 115), type := 4, pos := "law.go:179", after := #[{ on := 45, ground := Ground.data }, { on := 36, ground := Ground.guard }], guard := some (36, true) }) (v := _) [47, 48] [] rfl rfl (by kernel_rfl) (by kernel_rfl) (by kernel_rfl) (by kernel_rfl) (by kernel_rfl) (by kernel_rfl) (by kernel_rfl) (fun _ _ _ h => h) (Or.inl ⟨by rfl, Or.inl ?hyN79⟩) ?restN79
                      case hyN79 => (intro w' kk ss; obtain ⟨u0, u1, u2⟩ := HC.out _ (hr0.trans kk); go_simp; first | done | with_reducible rfl)
                      try simp only [Act.put, List.setIfInBounds_toArray, List.set_cons_zero, List.set_cons_succ]
                      refine' Reg.wpG_take (i := 47) (oi := { dst := some 117, op := Op.pick (Operand.tmp 106) (Operand.tmp 116) (Operand.const (Value.bool false)), type := 4, pos := "law.go:179", after := #[{ on := 36, ground := Ground.data }, { on := 46, ground := Ground.data }, { on := 31, ground := Ground.guard }], guard := some (31, false) }) (v := _) [48] [] rfl rfl (by kernel_rfl) (by kernel_rfl) (by kernel_rfl) (by kernel_rfl) (by kernel_rfl) (by kernel_rfl) (by kernel_rfl) (fun _ _ _ h => h) (Or.inl ⟨by rfl, Or.inl ?hyN80⟩) ?restN80
                      case hyN80 => (intro w' kk ss; obtain ⟨u0, u1, u2⟩ := HC.out _ (hr0.trans kk); go_simp; first | done | with_reducible rfl)
                      try simp only [Act.put, List.setIfInBounds_toArray, List.set_cons_zero, List.set_cons_succ]
                      refine' Reg.wpG_take (i := 48) (oi := { dst := some 118, op := Op.pick (Operand.tmp 101) (Operand.const (Value.bool true)) (Operand.tmp 117), type := 4, pos := "law.go:179", after := #[{ on := 31, ground := Ground.data }, { on := 47, ground := Ground.data }], guard := none }) (v := _) [] [] rfl rfl (by kernel_rfl) (by kernel_rfl) (by kernel_rfl) (by kernel_rfl) (by kernel_rfl) (by kernel_rfl) (by kernel_rfl) (fun _ _ _ h => h) (Or.inl ⟨by rfl, Or.inl ?hyN81⟩) ?restN81
                      case hyN81 => (intro w' kk ss; obtain ⟨u0, u1, u2⟩ := HC.out _ (hr0.trans kk); go_simp; first | done | with_reducible rfl)
                      try simp only [Act.put, List.setIfInBounds_toArray, List.set_cons_zero, List.set_cons_succ]
                      refine Reg.wpG_done (by kernel_rfl) (fun wq ke se => ?_) _
                      refine NoPanic.normal ?_
                      have hr0 := hr0.trans ke
                      have h9 := h9.since stR ke
                      clear ke
                      clear h9
                      go_wp2
                      go_roundw
                      case rel => exact ⟨j + 1, by go_num, by omega, HWI.out.trans hr0⟩
                      case measure => simp [intOf]; omega
                · obtain rfl : nD = j := by omega
                  have hcs := narrow_cases OK1.out HF1.out xx dd
                  rw [NE.out] at hcs
                  have KI := Lib.hid (k8.trans HWI.out)
                  have E2 := (veil_cell (bx3 BA8.out).2.1).1
                  rcases hcs with ⟨z, e⟩ | ⟨kc, y, hxk, hkc, hyk, hyr, hdr, hsm, e⟩
                  · injection e with e1 e2
                    injection e2 with e2 e3
                    subst e1 e2 e3
                    have C0 := Lib.hid (show (told 0 s2.F).length = 0 by rw [HF1.out, told_none]; rfl)
                    go_wp2_with (go_at_call 20; (with_reducible refine (changed_at (L7.out.since KI.out) (by omega) (changed_eta s2) C0.out).mono ?_); rintro e w9 ⟨Ad, cd, rfl, -, l9, v9⟩; have L9 := Lib.hid l9; have V9 := Lib.hid v9; clear l9 v9)
                    have DA := Lib.hid (fun W (kk : Since w9 W) => doms_at (sld_unveil (((HW8.out.since stD (Since.veil HWI.out G)).since stD V9.out))|>.since stD kk) (sld_unveil (((HN8.out.since stD (Since.veil HWI.out G)).since stD V9.out))|>.since stD kk) (by have := OK1.out.n; omega) (by have := OK1.out.n; omega) (fun d hd => (OK1.out.D d hd).2.2) (b := true) (decide_eq_true rfl))
                    clear E2
                    as_aux_lemma =>
                      have hr0 : Since w9 w9.drew := Since.drew (Since.refl w9)
                      refine wp_region_noPanic ?_
                      refine Reg.wp_region_G (S := fun _ => True) (fun j => [].contains j) (by kernel_rfl) trivial ?_
                      refine' Reg.wpG_take (i := 0) (oi := { dst := some 122, op := Op.move (Operand.tmp 9), type := 4, pos := "law.go:184", after := #[], guard := none }) (v := _) [4, 5, 6, 7, 8, 9, 10, 11, 12, 13, 14, 15, 16, 17, 18, 19, 20, 21, 22, 23, 24, 25, 26, 27, 28, 29, 30, 31, 32, 33, 34, 35, 36, 37, 38, 39, 40, 41, 42, 43, 44, 45, 46, 47] [] rfl rfl (by kernel_rfl) (by kernel_rfl) (by kernel_rfl) (by kernel_rfl) (by kernel_rfl) (by kernel_rfl) (by kernel_rfl) (fun _ _ _ h => h) (Or.inl ⟨by rfl, Or.inl ?hyF82⟩) ?restF82
                      case hyF82 => (intro w' kk ss; skip; go_simp; first | done | with_reducible rfl)
                      try simp only [Act.put, List.setIfInBounds_toArray, List.set_cons_zero, List.set_cons_succ]
                      refine' Reg.wpG_take (i := 1) (oi := { dst := some 123, op := Op.move (Operand.tmp 13), type := 44, pos := "law.go:184", after := #[], guard := none }) (v := _) [2, 3, 4, 5, 6, 7, 8, 9, 10, 11, 12, 13, 14, 15, 16, 17, 18, 19, 20, 21, 22, 23, 24, 25, 26, 27, 28, 29, 30, 31, 32, 33, 34, 35, 36, 37, 38, 39, 40, 41, 42, 43, 44, 45, 46, 47] [] rfl rfl (by kernel_rfl) (by kernel_rfl) (by kernel_rfl) (by kernel_rfl) (by kernel_rfl) (by kernel_rfl) (by kernel_rfl) (fun _ _ _ h => h) (Or.inl ⟨by rfl, Or.inl ?hyF83⟩) ?restF83
                      case hyF83 => (intro w' kk ss; skip; go_simp; first | done | with_reducible rfl)
                      try simp only [Act.put, List.setIfInBounds_toArray, List.set_cons_zero, List.set_cons_succ]
                      refine' Reg.wpG_take (i := 2) (oi := { dst := some 124, op := Op.call { callee := Callee.builtin Builtin.len, args := #[Operand.tmp 123], argTypes := #[44] }, type := 3, pos := "law.go:184", after := #[{ on := 1, ground := Ground.data }], guard := none }) (v := _) [3, 4, 5, 6, 7, 8, 9, 10, 11, 12, 13, 14, 15, 16, 17, 18, 19, 20, 21, 22, 23, 24, 25, 26, 27, 28, 29, 30, 31, 32, 33, 34, 35, 36, 37, 38, 39, 40, 41, 42, 43, 44, 45, 46, 47] [] rfl rfl (by kernel_rfl) (by kernel_rfl) (by kernel_rfl) (by kernel_rfl) (by kernel_rfl) (by kernel_rfl) (by kernel_rfl) (fun _ _ _ h => h) (Or.inl ⟨by rfl, Or.inl ?hyF84⟩) ?restF84
                      case hyF84 => (intro w' kk ss; skip; go_simp; first | done | with_reducible rfl)
                      try simp only [Act.put, List.setIfInBounds_toArray, List.set_cons_zero, List.set_cons_succ]
                      refine' Reg.wpG_take (i := 3) (oi := { dst := some 125, op := Op.binOp BinOp.eql 3 (Operand.tmp 124) (Operand.const (Value.int IntKind.i64 1)) 3, type := 4, pos := "law.go:184", after := #[{ on := 2, ground := Ground.data }], guard := none }) (v := _) [4, 5, 6, 7, 8, 9, 10, 11, 12, 13, 14, 15, 16, 17, 18, 19, 20, 21, 22, 23, 24, 25, 26, 27, 28, 29, 30, 31, 32, 33, 34, 35, 36, 37, 38, 39, 40, 41, 42, 43, 44, 45, 46, 47] [] rfl rfl (by kernel_rfl) (by kernel_rfl) (by kernel_rfl) (by kernel_rfl) (by kernel_rfl) (by kernel_rfl) (by kernel_rfl) (fun _ _ _ h => h) (Or.inl ⟨by rfl, Or.inl ?hyF85⟩) ?restF85
                      case hyF85 => (intro w' kk ss; skip; go_simp; first | done | with_reducible rfl)
                      try simp only [Act.put, List.setIfInBounds_toArray, List.set_cons_zero, List.set_cons_succ]
                      refine' Reg.wpG_take (i := 4) (oi := { dst := some 126, op := Op.binOp BinOp.neq 4 (Operand.tmp 122) (Operand.tmp 125) 4, type := 4, pos := "law.go:184", after := #[{ on := 0, ground := Ground.data }, { on := 3, ground := Ground.data }], guard := none }) (v := _) [5, 6, 7, 8, 9, 10, 11, 12, 13, 14, 15, 16, 17, 18, 19, 20, 21, 22, 23, 24, 25, 26, 27, 28, 29, 30, 31, 32, 33, 34, 35, 36, 37, 38, 39, 40, 41, 42, 43, 44, 45, 46, 47] [] rfl rfl (by kernel_rfl) (by kernel_rfl) (by kernel_rfl) (by kernel_rfl) (by kernel_rfl) (by kernel_rfl) (by kernel_rfl) (fun _ _ _ h => h) (Or.inl ⟨by rfl, Or.inl ?hyF86⟩) ?restF86
                      case hyF86 => (intro w' kk ss; skip; go_simp; first | done | with_reducible rfl)
                      try simp only [Act.put, List.setIfInBounds_toArray, List.set_cons_zero, List.set_cons_succ]
                      refine' Reg.wpG_take (i := 5) (oi := { dst := some 127, op := Op.move (Operand.tmp 126), type := 4, pos := "law.go:184", after := #[{ on := 4, ground := Ground.data }], guard := none }) (v := _) [6, 7, 8, 9, 10, 11, 12, 13, 14, 15, 16, 17, 18, 19, 20, 21, 22, 23, 24, 25, 26, 27, 28, 29, 30, 31, 32, 33, 34, 35, 36, 37, 38, 39, 40, 41, 42, 43, 44, 45, 46, 47] [] rfl rfl (by kernel_rfl) (by kernel_rfl) (by kernel_rfl) (by kernel_rfl) (by kernel_rfl) (by kernel_rfl) (by kernel_rfl) (fun _ _ _ h => h) (Or.inl ⟨by rfl, Or.inl ?hyF87⟩) ?restF87
                      case hyF87 => (intro w' kk ss; skip; go_simp; first | done | with_reducible rfl)
                      try simp only [Act.put, List.setIfInBounds_toArray, List.set_cons_zero, List.set_cons_succ]
                      refine' Reg.wpG_take (i := 6) (oi := { dst := some 128, op := Op.move (Operand.tmp 9), type := 4, pos := "law.go:184", after := #[{ on := 5, ground := Ground.guard }], guard := some (5, false) }) (v := _) [7, 8, 9, 10, 11, 12, 13, 14, 15, 16, 17, 18, 19, 20, 21, 22, 23, 24, 25, 26, 27, 28, 29, 30, 31, 32, 33, 34, 35, 36, 37, 38, 39, 40, 41, 42, 43, 44, 45, 46, 47] [] rfl rfl (by kernel_rfl) (by kernel_rfl) (by kernel_rfl) (by kernel_rfl) (by kernel_rfl) (by kernel_rfl) (by kernel_rfl) (fun _ _ _ h => h) (Or.inl ⟨by rfl, Or.inl ?hyF88⟩) ?restF88
                      case hyF88 => (intro w' kk ss; skip; go_simp; first | done | with_reducible rfl)
                      try simp only [Act.put, List.setIfInBounds_toArray, List.set_cons_zero, List.set_cons_succ]
                      refine' Reg.wpG_take (i := 7) (oi := { dst := some 129, op := Op.move (Operand.tmp 128), type := 4, pos := "law.go:184", after := #[{ on := 6, ground := Ground.data }, { on := 5, ground := Ground.chain }, { on := 5, ground := Ground.guard }], guard := some (5, false) }) (v := _) [8, 9, 10, 11, 12, 13, 14, 15, 16, 17, 18, 19, 20, 21, 22, 23, 24, 25, 26, 27, 28, 29, 30, 31, 32, 33, 34, 35, 36, 37, 38, 39, 40, 41, 42, 43, 44, 45, 46, 47] [] rfl rfl (by kernel_rfl) (by kernel_rfl) (by kernel_rfl) (by kernel_rfl) (by kernel_rfl) (by kernel_rfl) (by kernel_rfl) (fun _ _ _ h => h) (Or.inl ⟨by rfl, Or.inl ?hyF89⟩) ?restF89
                      case hyF89 => (intro w' kk ss; skip; go_simp; first | done | with_reducible rfl)
                      try simp only [Act.put, List.setIfInBounds_toArray, List.set_cons_zero, List.set_cons_succ]
                      refine Reg.wpG_take (i := 8) (oi := { dst := some 130, op := Op.move (Operand.tmp 13), type := 44, pos := "law.go:184", after := #[{ on := 7, ground := Ground.guard }], guard := some (7, true) }) (v := undef) [9, 10, 13, 14, 15, 16, 17, 18, 19, 20, 21, 22, 23, 24, 25, 26, 27, 28, 29, 30, 31, 32, 33, 34, 35, 36, 37, 38, 39, 40, 41, 42, 43, 44, 45, 46, 47] [] rfl rfl (by kernel_rfl) (by kernel_rfl) (by kernel_rfl) (by kernel_rfl) (by kernel_rfl) (by kernel_rfl) (by kernel_rfl) (fun _ _ _ h => h) (Or.inr ⟨by rfl, rfl⟩) ?_
                      try simp only [Act.put, List.setIfInBounds_toArray, List.set_cons_zero, List.set_cons_succ]
                      refine Reg.wpG_take (i := 9) (oi := { dst := some 131, op := Op.indexAddr 44 (Operand.tmp 130) (Operand.const (Value.int IntKind.i64 0)), type := 0, pos := "law.go:184", after := #[{ on := 8, ground := Ground.data }, { on := 7, ground := Ground.guard }], guard := some (7, true) }) (v := undef) [10, 13, 14, 15, 16, 17, 18, 19, 20, 21, 22, 23, 24, 25, 26, 27, 28, 29, 30, 31, 32, 33, 34, 35, 36, 37, 38, 39, 40, 41, 42, 43, 44, 45, 46, 47] [] rfl rfl (by kernel_rfl) (by kernel_rfl) (by kernel_rfl) (by kernel_rfl) (by kernel_rfl) (by kernel_rfl) (by kernel_rfl) (fun _ _ _ h => h) (Or.inr ⟨by rfl, rfl⟩) ?_
                      try simp only [Act.put, List.setIfInBounds_toArray, List.set_cons_zero, List.set_cons_succ]
                      refine Reg.wpG_take (i := 10) (oi := { dst := some 132, op := Op.load 3 (Operand.tmp 131), type := 3, pos := "law.go:184", after := #[{ on := 9, ground := Ground.data }, { on := 7, ground := Ground.guard }], guard := some (7, true) }) (v := undef) [13, 14, 15, 16, 17, 18, 19, 20, 21, 22, 23, 24, 25, 26, 27, 28, 29, 30, 31, 32, 33, 34, 35, 36, 37, 38, 39, 40, 41, 42, 43, 44, 45, 46, 47] [] rfl rfl (by kernel_rfl) (by kernel_rfl) (by kernel_rfl) (by kernel_rfl) (by kernel_rfl) (by kernel_rfl) (by kernel_rfl) (fun _ _ _ h => h) (Or.inr ⟨by rfl, rfl⟩) ?_
                      try simp only [Act.put, List.setIfInBounds_toArray, List.set_cons_zero, List.set_cons_succ]
                      refine Reg.wpG_take (i := 11) (oi := { dst := some 133, op := Op.fieldAddr 35 (Operand.tmp 7) 1, type := 0, pos := "law.go:184", after := #[{ on := 7, ground := Ground.guard }], guard := some (7, true) }) (v := undef) [12, 13, 14, 15, 16, 17, 18, 19, 20, 21, 22, 23, 24, 25, 26, 27, 28, 29, 30, 31, 32, 33, 34, 35, 36, 37, 38, 39, 40, 41, 42, 43, 44, 45, 46, 47] [] rfl rfl (by kernel_rfl) (by kernel_rfl) (by kernel_rfl) (by kernel_rfl) (by kernel_rfl) (by kernel_rfl) (by kernel_rfl) (fun _ _ _ h => h) (Or.inr ⟨by rfl, rfl⟩) ?_
                      try simp only [Act.put, List.setIfInBounds_toArray, List.set_cons_zero, List.set_cons_succ]
                      refine Reg.wpG_take (i := 12) (oi := { dst := some 134, op := Op.load 3 (Operand.tmp 133), type := 3, pos := "law.go:184", after := #[{ on := 11, ground := Ground.data }, { on := 7, ground := Ground.guard }], guard := some (7, true) }) (v := undef) [13, 14, 15, 16, 17, 18, 19, 20, 21, 22, 23, 24, 25, 26, 27, 28, 29, 30, 31, 32, 33, 34, 35, 36, 37, 38, 39, 40, 41, 42, 43, 44, 45, 46, 47] [] rfl rfl (by kernel_rfl) (by kernel_rfl) (by kernel_rfl) (by kernel_rfl) (by kernel_rfl) (by kernel_rfl) (by kernel_rfl) (fun _ _ _ h => h) (Or.inr ⟨by rfl, rfl⟩) ?_
                      try simp only [Act.put, List.setIfInBounds_toArray, List.set_cons_zero, List.set_cons_succ]
                      refine Reg.wpG_take (i := 13) (oi := { dst := some 135, op := Op.binOp BinOp.neq 3 (Operand.tmp 132) (Operand.tmp 134) 3, type := 4, pos := "law.go:184", after := #[{ on := 10, ground := Ground.data }, { on := 12, ground := Ground.data }, { on := 7, ground := Ground.guard }], guard := some (7, true) }) (v := undef) [14, 15, 16, 17, 18, 19, 20, 21, 22, 23, 24, 25, 26, 27, 28, 29, 30, 31, 32, 33, 34, 35, 36, 37, 38, 39, 40, 41, 42, 43, 44, 45, 46, 47] [] rfl rfl (by kernel_rfl) (by kernel_rfl) (by kernel_rfl) (by kernel_rfl) (by kernel_rfl) (by kernel_rfl) (by kernel_rfl) (fun _ _ _ h => h) (Or.inr ⟨by rfl, rfl⟩) ?_
                      try simp only [Act.put, List.setIfInBounds_toArray, List.set_cons_zero, List.set_cons_succ]
                      refine Reg.wpG_take (i := 14) (oi := { dst := some 136, op := Op.move (Operand.tmp 135), type := 4, pos := "law.go:184", after := #[{ on := 13, ground := Ground.data }, { on := 7, ground := Ground.chain }, { on := 7, ground := Ground.guard }], guard := some (7, true) }) (v := undef) [15, 16, 17, 18, 19, 20, 21, 22, 23, 24, 25, 26, 27, 28, 29, 30, 31, 32, 33, 34, 35, 36, 37, 38, 39, 40, 41, 42, 43, 44, 45, 46, 47] [] rfl rfl (by kernel_rfl) (by kernel_rfl) (by kernel_rfl) (by kernel_rfl) (by kernel_rfl) (by kernel_rfl) (by kernel_rfl) (fun _ _ _ h => h) (Or.inr ⟨by rfl, rfl⟩) ?_
                      try simp only [Act.put, List.setIfInBounds_toArray, List.set_cons_zero, List.set_cons_succ]
                      refine Reg.wpG_take (i := 15) (oi := { dst := some 137, op := Op.move (Operand.tmp 10), type := 36, pos := "law.go:184", after := #[{ on := 14, ground := Ground.guard }], guard := some (14, false) }) (v := undef) [16, 17, 18, 19, 20, 21, 22, 23, 24, 25, 26, 27, 28, 29, 30, 31, 32, 33, 34, 35, 36, 37, 38, 39, 40, 41, 42, 43, 44, 45, 46, 47] [] rfl rfl (by kernel_rfl) (by kernel_rfl) (by kernel_rfl) (by kernel_rfl) (by kernel_rfl) (by kernel_rfl) (by kernel_rfl) (fun _ _ _ h => h) (Or.inr ⟨by rfl, rfl⟩) ?_
                      try simp only [Act.put, List.setIfInBounds_toArray, List.set_cons_zero, List.set_cons_succ]
                      refine Reg.wpG_take (i := 16) (oi := { dst := some 138, op := Op.binOp BinOp.neq 36 (Operand.tmp 137) (Operand.const (Value.int IntKind.i64 0)) 36, type := 4, pos := "law.go:184", after := #[{ on := 15, ground := Ground.data }, { on := 14, ground := Ground.guard }], guard := some (14, false) }) (v := undef) [17, 18, 19, 20, 21, 22, 23, 24, 25, 26, 27, 28, 29, 30, 31, 32, 33, 34, 35, 36, 37, 38, 39, 40, 41, 42, 43, 44, 45, 46, 47] [] rfl rfl (by kernel_rfl) (by kernel_rfl) (by kernel_rfl) (by kernel_rfl) (by kernel_rfl) (by kernel_rfl) (by kernel_rfl) (fun _ _ _ h => h) (Or.inr ⟨by rfl, rfl⟩) ?_
                      try simp only [Act.put, List.setIfInBounds_toArray, List.set_cons_zero, List.set_cons_succ]
                      refine Reg.wpG_take (i := 17) (oi := { dst := some 139, op := Op.pick (Operand.tmp 136) (Operand.const (Value.bool true)) (Operand.tmp 138), type := 4, pos := "law.go:184", after := #[{ on := 14, ground := Ground.data }, { on := 16, ground := Ground.data }, { on := 7, ground := Ground.guard }], guard := some (7, true) }) (v := undef) [18, 19, 20, 21, 22, 23, 24, 25, 26, 27, 28, 29, 30, 31, 32, 33, 34, 35, 36, 37, 38, 39, 40, 41, 42, 43, 44, 45, 46, 47] [] rfl rfl (by kernel_rfl) (by kernel_rfl) (by kernel_rfl) (by kernel_rfl) (by kernel_rfl) (by kernel_rfl) (by kernel_rfl) (fun _ _ _ h => h) (Or.inr ⟨by rfl, rfl⟩) ?_
                      try simp only [Act.put, List.setIfInBounds_toArray, List.set_cons_zero, List.set_cons_succ]
                      refine Reg.wpG_take (i := 18) (oi := { dst := some 140, op := Op.move (Operand.tmp 139), type := 4, pos := "law.go:184", after := #[{ on := 17, ground := Ground.data }, { on := 14, ground := Ground.chain }, { on := 7, ground := Ground.guard }], guard := some (7, true) }) (v := undef) [19, 20, 21, 22, 23, 24, 25, 26, 27, 28, 29, 30, 31, 32, 33, 34, 35, 36, 37, 38, 39, 40, 41, 42, 43, 44, 45, 46, 47] [] rfl rfl (by kernel_rfl) (by kernel_rfl) (by kernel_rfl) (by kernel_rfl) (by kernel_rfl) (by kernel_rfl) (by kernel_rfl) (fun _ _ _ h => h) (Or.inr ⟨by rfl, rfl⟩) ?_
                      try simp only [Act.put, List.setIfInBounds_toArray, List.set_cons_zero, List.set_cons_succ]
                      refine Reg.wpG_take (i := 19) (oi := { dst := some 141, op := Op.move (Operand.tmp 8), type := 22, pos := "law.go:184", after := #[{ on := 18, ground := Ground.guard }], guard := some (18, false) }) (v := undef) [22, 23, 29, 30, 31, 32, 33, 34, 35, 36, 37, 38, 39, 40, 41, 42, 43, 44, 45, 46, 47] [] rfl rfl (by kernel_rfl) (by kernel_rfl) (by kernel_rfl) (by kernel_rfl) (by kernel_rfl) (by kernel_rfl) (by kernel_rfl) (fun _ _ _ h => h) (Or.inr ⟨by rfl, rfl⟩) ?_
                      try simp only [Act.put, List.setIfInBounds_toArray, List.set_cons_zero, List.set_cons_succ]
                      refine Reg.wpG_take (i := 20) (oi := { dst := some 142, op := Op.fieldAddr 35 (Operand.tmp 7) 1, type := 0, pos := "law.go:184", after := #[{ on := 18, ground := Ground.guard }], guard := some (18, false) }) (v := undef) [21, 22, 23, 29, 30, 31, 32, 33, 34, 35, 36, 37, 38, 39, 40, 41, 42, 43, 44, 45, 46, 47] [] rfl rfl (by kernel_rfl) (by kernel_rfl) (by kernel_rfl) (by kernel_rfl) (by kernel_rfl) (by kernel_rfl) (by kernel_rfl) (fun _ _ _ h => h) (Or.inr ⟨by rfl, rfl⟩) ?_
                      try simp only [Act.put, List.setIfInBounds_toArray, List.set_cons_zero, List.set_cons_succ]
                      refine Reg.wpG_take (i := 21) (oi := { dst := some 143, op := Op.load 3 (Operand.tmp 142), type := 3, pos := "law.go:184", after := #[{ on := 20, ground := Ground.data }, { on := 18, ground := Ground.guard }], guard := some (18, false) }) (v := undef) [22, 23, 29, 30, 31, 32, 33, 34, 35, 36, 37, 38, 39, 40, 41, 42, 43, 44, 45, 46, 47] [] rfl rfl (by kernel_rfl) (by kernel_rfl) (by kernel_rfl) (by kernel_rfl) (by kernel_rfl) (by kernel_rfl) (by kernel_rfl) (fun _ _ _ h => h) (Or.inr ⟨by rfl, rfl⟩) ?_
                      try simp only [Act.put, List.setIfInBounds_toArray, List.set_cons_zero, List.set_cons_succ]
                      refine Reg.wpG_take (i := 22) (oi := { dst := some 144, op := Op.indexAddr 22 (Operand.tmp 141) (Operand.tmp 143), type := 0, pos := "law.go:184", after := #[{ on := 19, ground := Ground.data }, { on := 21, ground := Ground.data }, { on := 18, ground := Ground.guard }], guard := some (18, false) }) (v := undef) [23, 29, 30, 31, 32, 33, 34, 35, 36, 37, 38, 39, 40, 41, 42, 43, 44, 45, 46, 47] [] rfl rfl (by kernel_rfl) (by kernel_rfl) (by kernel_rfl) (by kernel_rfl) (by kernel_rfl) (by kernel_rfl) (by kernel_rfl) (fun _ _ _ h => h) (Or.inr ⟨by rfl, rfl⟩) ?_
                      try simp only [Act.put, List.setIfInBounds_toArray, List.set_cons_zero, List.set_cons_succ]
                      refine Reg.wpG_take (i := 23) (oi := { dst := some 145, op := Op.load 33 (Operand.tmp 144), type := 33, pos := "law.go:184", after := #[{ on := 22, ground := Ground.data }, { on := 18, ground := Ground.guard }], guard := some (18, false) }) (v := undef) [29, 30, 31, 32, 33, 34, 35, 36, 37, 38, 39, 40, 41, 42, 43, 44, 45, 46, 47] [] rfl rfl (by kernel_rfl) (by kernel_rfl) (by kernel_rfl) (by kernel_rfl) (by kernel_rfl) (by kernel_rfl) (by kernel_rfl) (fun _ _ _ h => h) (Or.inr ⟨by rfl, rfl⟩) ?_
                      try simp only [Act.put, List.setIfInBounds_toArray, List.set_cons_zero, List.set_cons_succ]
                      refine Reg.wpG_take (i := 24) (oi := { dst := some 146, op := Op.move (Operand.tmp 11), type := 22, pos := "law.go:184", after := #[{ on := 18, ground := Ground.guard }], guard := some (18, false) }) (v := undef) [27, 28, 29, 30, 31, 32, 33, 34, 35, 36, 37, 38, 39, 40, 41, 42, 43, 44, 45, 46, 47] [] rfl rfl (by kernel_rfl) (by kernel_rfl) (by kernel_rfl) (by kernel_rfl) (by kernel_rfl) (by kernel_rfl) (by kernel_rfl) (fun _ _ _ h => h) (Or.inr ⟨by rfl, rfl⟩) ?_
                      try simp only [Act.put, List.setIfInBounds_toArray, List.set_cons_zero, List.set_cons_succ]
                      refine Reg.wpG_take (i := 25) (oi := { dst := some 147, op := Op.fieldAddr 35 (Operand.tmp 7) 1, type := 0, pos := "law.go:184", after := #[{ on := 18, ground := Ground.guard }], guard := some (18, false) }) (v := undef) [26, 27, 28, 29, 30, 31, 32, 33, 34, 35, 36, 37, 38, 39, 40, 41, 42, 43, 44, 45, 46, 47] [] rfl rfl (by kernel_rfl) (by kernel_rfl) (by kernel_rfl) (by kernel_rfl) (by kernel_rfl) (by kernel_rfl) (by kernel_rfl) (fun _ _ _ h => h) (Or.inr ⟨by rfl, rfl⟩) ?_
                      try simp only [Act.put, List.setIfInBounds_toArray, List.set_cons_zero, List.set_cons_succ]
                      refine Reg.wpG_take (i := 26) (oi := { dst := some 148, op := Op.load 3 (Operand.tmp 147), type := 3, pos := "law.go:184", after := #[{ on := 25, ground := Ground.data }, { on := 18, ground := Ground.guard }], guard := some (18, false) }) (v := undef) [27, 28, 29, 30, 31, 32, 33, 34, 35, 36, 37, 38, 39, 40, 41, 42, 43, 44, 45, 46, 47] [] rfl rfl (by kernel_rfl) (by kernel_rfl) (by kernel_rfl) (by kernel_rfl) (by kernel_rfl) (by kernel_rfl) (by kernel_rfl) (fun _ _ _ h => h) (Or.inr ⟨by rfl, rfl⟩) ?_
                      try simp only [Act.put, List.setIfInBounds_toArray, List.set_cons_zero, List.set_cons_succ]
                      refine Reg.wpG_take (i := 27) (oi := { dst := some 149, op := Op.indexAddr 22 (Operand.tmp 146) (Operand.tmp 148), type := 0, pos := "law.go:184", after := #[{ on := 24, ground := Ground.data }, { on := 26, ground := Ground.data }, { on := 18, ground := Ground.guard }], guard := some (18, false) }) (v := undef) [28, 29, 30, 31, 32, 33, 34, 35, 36, 37, 38, 39, 40, 41, 42, 43, 44, 45, 46, 47] [] rfl rfl (by kernel_rfl) (by kernel_rfl) (by kernel_rfl) (by kernel_rfl) (by kernel_rfl) (by kernel_rfl) (by kernel_rfl) (fun _ _ _ h => h) (Or.inr ⟨by rfl, rfl⟩) ?_
                      try simp only [Act.put, List.setIfInBounds_toArray, List.set_cons_zero, List.set_cons_succ]
                      refine Reg.wpG_take (i := 28) (oi := { dst := some 150, op := Op.load 33 (Operand.tmp 149), type := 33, pos := "law.go:184", after := #[{ on := 27, ground := Ground.data }, { on := 18, ground := Ground.guard }], guard := some (18, false) }) (v := undef) [29, 30, 31, 32, 33, 34, 35, 36, 37, 38, 39, 40, 41, 42, 43, 44, 45, 46, 47] [] rfl rfl (by kernel_rfl) (by kernel_rfl) (by kernel_rfl) (by kernel_rfl) (by kernel_rfl) (by kernel_rfl) (by kernel_rfl) (fun _ _ _ h => h) (Or.inr ⟨by rfl, rfl⟩) ?_
                      try simp only [Act.put, List.setIfInBounds_toArray, List.set_cons_zero, List.set_cons_succ]
                      refine Reg.wpG_take (i := 29) (oi := { dst := some 151, op := Op.call { callee := Callee.value (Operand.func 25), args := #[Operand.tmp 145, Operand.tmp 150], argTypes := #[33, 33] }, type := 4, pos := "law.go:184", after := #[{ on := 23, ground := Ground.data }, { on := 28, ground := Ground.data }, { on := 18, ground := Ground.chain }, { on := 18, ground := Ground.guard }], guard := some (18, false) }) (v := undef) [30, 31, 32, 33, 34, 35, 36, 37, 38, 39, 40, 41, 42, 43, 44, 45, 46, 47] [] rfl rfl (by kernel_rfl) (by kernel_rfl) (by kernel_rfl) (by kernel_rfl) (by kernel_rfl) (by kernel_rfl) (by kernel_rfl) (fun _ _ _ h => h) (Or.inr ⟨by rfl, rfl⟩) ?_
                      try simp only [Act.put, List.setIfInBounds_toArray, List.set_cons_zero, List.set_cons_succ]
                      refine Reg.wpG_take (i := 30) (oi := { dst := some 152, op := Op.pick (Operand.tmp 140) (Operand.const (Value.bool true)) (Operand.tmp 151), type := 4, pos := "law.go:184", after := #[{ on := 18, ground := Ground.data }, { on := 29, ground := Ground.data }, { on := 7, ground := Ground.guard }], guard := some (7, true) }) (v := undef) [31, 32, 33, 34, 35, 36, 37, 38, 39, 40, 41, 42, 43, 44, 45, 46, 47] [] rfl rfl (by kernel_rfl) (by kernel_rfl) (by kernel_rfl) (by kernel_rfl) (by kernel_rfl) (by kernel_rfl) (by kernel_rfl) (fun _ _ _ h => h) (Or.inr ⟨by rfl, rfl⟩) ?_
                      try simp only [Act.put, List.setIfInBounds_toArray, List.set_cons_zero, List.set_cons_succ]
                      refine' Reg.wpG_take (i := 31) (oi := { dst := some 153, op := Op.pick (Operand.tmp 129) (Operand.tmp 152) (Operand.const (Value.bool false)), type := 4, pos := "law.go:184", after := #[{ on := 7, ground := Ground.data }, { on := 30, ground := Ground.data }, { on := 5, ground := Ground.guard }], guard := some (5, false) }) (v := _) [32, 33, 34, 35, 36, 37, 38, 39, 40, 41, 42, 43, 44, 45, 46, 47] [] rfl rfl (by kernel_rfl) (by kernel_rfl) (by kernel_rfl) (by kernel_rfl) (by kernel_rfl) (by kernel_rfl) (by kernel_rfl) (fun _ _ _ h => h) (Or.inl ⟨by rfl, Or.inl ?hyF90⟩) ?restF90
                      case hyF90 => (intro w' kk ss; skip; go_simp; first | done | with_reducible rfl)
                      try simp only [Act.put, List.setIfInBounds_toArray, List.set_cons_zero, List.set_cons_succ]
                      refine' Reg.wpG_take (i := 32) (oi := { dst := some 154, op := Op.pick (Operand.tmp 127) (Operand.const (Value.bool true)) (Operand.tmp 153), type := 4, pos := "law.go:184", after := #[{ on := 5, ground := Ground.data }, { on := 31, ground := Ground.data }], guard := none }) (v := _) [33, 34, 35, 36, 37, 38, 39, 40, 41, 42, 43, 44, 45, 46, 47] [] rfl rfl (by kernel_rfl) (by kernel_rfl) (by kernel_rfl) (by kernel_rfl) (by kernel_rfl) (by kernel_rfl) (by kernel_rfl) (fun _ _ _ h => h) (Or.inl ⟨by rfl, Or.inl ?hyF91⟩) ?restF91
                      case hyF91 => (intro w' kk ss; skip; go_simp; first | done | with_reducible rfl)
                      try simp only [Act.put, List.setIfInBounds_toArray, List.set_cons_zero, List.set_cons_succ]
                      refine' Reg.wpG_take (i := 33) (oi := { dst := some 155, op := Op.move (Operand.tmp 154), type := 4, pos := "law.go:184", after := #[{ on := 32, ground := Ground.data }, { on := 29, ground := Ground.chain }], guard := none }) (v := _) [34, 35, 36, 37, 38, 39, 40, 41, 42, 43, 44, 45, 46, 47] [] rfl rfl (by kernel_rfl) (by kernel_rfl) (by kernel_rfl) (by kernel_rfl) (by kernel_rfl) (by kernel_rfl) (by kernel_rfl) (fun _ _ _ h => h) (Or.inl ⟨by rfl, Or.inl ?hyF92⟩) ?restF92
                      case hyF92 => (intro w' kk ss; skip; go_simp; first | done | with_reducible rfl)
                      try simp only [Act.put, List.setIfInBounds_toArray, List.set_cons_zero, List.set_cons_succ]
                      refine' Reg.wpG_take (i := 34) (oi := { dst := some 156, op := Op.move (Operand.tmp 9), type := 4, pos := "law.go:184", after := #[{ on := 33, ground := Ground.guard }], guard := some (33, false) }) (v := _) [35, 36, 37, 38, 39, 40, 41, 42, 43, 44, 45, 46, 47] [] rfl rfl (by kernel_rfl) (by kernel_rfl) (by kernel_rfl) (by kernel_rfl) (by kernel_rfl) (by kernel_rfl) (by kernel_rfl) (fun _ _ _ h => h) (Or.inl ⟨by rfl, Or.inl ?hyF93⟩) ?restF93
                      case hyF93 => (intro w' kk ss; skip; go_simp; first | done | with_reducible rfl)
                      try simp only [Act.put, List.setIfInBounds_toArray, List.set_cons_zero, List.set_cons_succ]
                      refine' Reg.wpG_take (i := 35) (oi := { dst := some 157, op := Op.unOp UnOp.not 4 (Operand.tmp 156), type := 4, pos := "law.go:184", after := #[{ on := 34, ground := Ground.data }, { on := 33, ground := Ground.guard }], guard := some (33, false) }) (v := _) [36, 37, 38, 39, 40, 41, 42, 43, 44, 45, 46, 47] [] rfl rfl (by kernel_rfl) (by kernel_rfl) (by kernel_rfl) (by kernel_rfl) (by kernel_rfl) (by kernel_rfl) (by kernel_rfl) (fun _ _ _ h => h) (Or.inl ⟨by rfl, Or.inl ?hyF94⟩) ?restF94
                      case hyF94 => (intro w' kk ss; skip; go_simp; first | done | with_reducible rfl)
                      try simp only [Act.put, List.setIfInBounds_toArray, List.set_cons_zero, List.set_cons_succ]
                      refine' Reg.wpG_take (i := 36) (oi := { dst := some 158, op := Op.move (Operand.tmp 157), type := 4, pos := "law.go:184", after := #[{ on := 35, ground := Ground.data }, { on := 33, ground := Ground.chain }, { on := 33, ground := Ground.guard }], guard := some (33, false) }) (v := _) [37, 38, 39, 40, 41, 42, 43, 44, 45, 46, 47] [] rfl rfl (by kernel_rfl) (by kernel_rfl) (by kernel_rfl) (by kernel_rfl) (by kernel_rfl) (by kernel_rfl) (by kernel_rfl) (fun _ _ _ h => h) (Or.inl ⟨by rfl, Or.inl ?hyF95⟩) ?restF95
                      case hyF95 => (intro w' kk ss; skip; go_simp; first | done | with_reducible rfl)
                      try simp only [Act.put, List.setIfInBounds_toArray, List.set_cons_zero, List.set_cons_succ]
                      refine' Reg.wpG_take (i := 37) (oi := { dst := some 159, op := Op.move (Operand.tmp 8), type := 22, pos := "law.go:184", after := #[{ on := 36, ground := Ground.guard }], guard := some (36, true) }) (v := _) [39, 40, 41, 42, 43, 44, 45, 46, 47] [] rfl rfl (by kernel_rfl) (by kernel_rfl) (by kernel_rfl) (by kernel_rfl) (by kernel_rfl) (by kernel_rfl) (by kernel_rfl) (fun _ _ _ h => h) (Or.inl ⟨by rfl, Or.inl ?hyF96⟩) ?restF96
                      case hyF96 => (intro w' kk ss; skip; go_simp; first | done | with_reducible rfl)
                      try simp only [Act.put, List.setIfInBounds_toArray, List.set_cons_zero, List.set_cons_succ]
                      refine' Reg.wpG_take (i := 38) (oi := { dst := some 160, op := Op.move (Operand.tmp 11), type := 22, pos := "law.go:184", after := #[{ on := 36, ground := Ground.guard }], guard := some (36, true) }) (v := _) [39, 40, 41, 42, 43, 44, 45, 46, 47] [] rfl rfl (by kernel_rfl) (by kernel_rfl) (by kernel_rfl) (by kernel_rfl) (by kernel_rfl) (by kernel_rfl) (by kernel_rfl) (fun _ _ _ h => h) (Or.inl ⟨by rfl, Or.inl ?hyF97⟩) ?restF97
                      case hyF97 => (intro w' kk ss; skip; go_simp; first | done | with_reducible rfl)
                      try simp only [Act.put, List.setIfInBounds_toArray, List.set_cons_zero, List.set_cons_succ]
                      refine Reg.wpG_take (i := 39) (oi := { dst := some 161, op := Op.call { callee := Callee.value (Operand.func 21), args := #[Operand.tmp 159, Operand.tmp 160], argTypes := #[22, 22] }, type := 4, pos := "law.go:184", after := #[{ on := 37, ground := Ground.data }, { on := 38, ground := Ground.data }, { on := 36, ground := Ground.chain }, { on := 36, ground := Ground.guard }], guard := some (36, true) }) (v := .bool true) [40, 41, 42, 43, 44, 45, 46, 47] [] rfl rfl (by kernel_rfl) (by kernel_rfl) (by kernel_rfl) (by kernel_rfl) (by kernel_rfl) (by kernel_rfl) (by kernel_rfl) (fun _ _ _ h => h) (Or.inl ⟨by rfl, Or.inr ⟨21, #[.slice Aw nD cw, .slice An nD cn], fun w' kk ss => ⟨?_, ?_⟩⟩⟩) ?_
                      · (try dsimp only at ss); go_simp
                      · exact (DA.out w' (hr0.trans kk)).mono fun e w'' h => ⟨h.1, h.2, trivial⟩
                      try simp only [Act.put, List.setIfInBounds_toArray, List.set_cons_zero, List.set_cons_succ]
                      refine' Reg.wpG_take (i := 40) (oi := { dst := some 162, op := Op.unOp UnOp.not 4 (Operand.tmp 161), type := 4, pos := "law.go:184", after := #[{ on := 39, ground := Ground.data }, { on := 36, ground := Ground.guard }], guard := some (36, true) }) (v := _) [41, 42, 43, 44, 45, 46, 47] [] rfl rfl (by kernel_rfl) (by kernel_rfl) (by kernel_rfl) (by kernel_rfl) (by kernel_rfl) (by kernel_rfl) (by kernel_rfl) (fun _ _ _ h => h) (Or.inl ⟨by rfl, Or.inl ?hyF98⟩) ?restF98
                      case hyF98 => (intro w' kk ss; skip; go_simp; first | done | with_reducible rfl)
                      try simp only [Act.put, List.setIfInBounds_toArray, List.set_cons_zero, List.set_cons_succ]
                      refine' Reg.wpG_take (i := 41) (oi := { dst := some 163, op := Op.pick (Operand.tmp 158) (Operand.tmp 162) (Operand.const (Value.bool false)), type := 4, pos := "law.go:184", after := #[{ on := 36, ground := Ground.data }, { on := 40, ground := Ground.data }, { on := 33, ground := Ground.guard }], guard := some (33, false) }) (v := _) [42, 43, 44, 45, 46, 47] [] rfl rfl (by kernel_rfl) (by kernel_rfl) (by kernel_rfl) (by kernel_rfl) (by kernel_rfl) (by kernel_rfl) (by kernel_rfl) (fun _ _ _ h => h) (Or.inl ⟨by rfl, Or.inl ?hyF99⟩) ?restF99
                      case hyF99 => (intro w' kk ss; skip; go_simp; first | done | with_reducible rfl)
                      try simp only [Act.put, List.setIfInBounds_toArray, List.set_cons_zero, List.set_cons_succ]
                      refine' Reg.wpG_take (i := 42) (oi := { dst := some 164, op := Op.pick (Operand.tmp 155) (Operand.const (Value.bool true)) (Operand.tmp 163), type := 4, pos := "law.go:184", after := #[{ on := 33, ground := Ground.data }, { on := 41, ground := Ground.data }], guard := none }) (v := _) [43, 44, 45, 46, 47] [] rfl rfl (by kernel_rfl) (by kernel_rfl) (by kernel_rfl) (by kernel_rfl) (by kernel_rfl) (by kernel_rfl) (by kernel_rfl) (fun _ _ _ h => h) (Or.inl ⟨by rfl, Or.inl ?hyF100⟩) ?restF100
                      case hyF100 => (intro w' kk ss; skip; go_simp; first | done | with_reducible rfl)
                      try simp only [Act.put, List.setIfInBounds_toArray, List.set_cons_zero, List.set_cons_succ]
                      refine' Reg.wpG_take (i := 43) (oi := { dst := some 165, op := Op.move (Operand.tmp 164), type := 4, pos := "law.go:184", after := #[{ on := 42, ground := Ground.data }, { on := 39, ground := Ground.chain }], guard := none }) (v := _) [44, 45, 46, 47] [] rfl rfl (by kernel_rfl) (by kernel_rfl) (by kernel_rfl) (by kernel_rfl) (by kernel_rfl) (by kernel_rfl) (by kernel_rfl) (fun _ _ _ h => h) (Or.inl ⟨by rfl, Or.inl ?hyF101⟩) ?restF101
                      case hyF101 => (intro w' kk ss; skip; go_simp; first | done | with_reducible rfl)
                      try simp only [Act.put, List.setIfInBounds_toArray, List.set_cons_zero, List.set_cons_succ]
                      refine' Reg.wpG_take (i := 44) (oi := { dst := some 166, op := Op.move (Operand.tmp 13), type := 44, pos := "law.go:184", after := #[{ on := 43, ground := Ground.guard }], guard := some (43, false) }) (v := _) [45, 46, 47] [] rfl rfl (by kernel_rfl) (by kernel_rfl) (by kernel_rfl) (by kernel_rfl) (by kernel_rfl) (by kernel_rfl) (by kernel_rfl) (fun _ _ _ h => h) (Or.inl ⟨by rfl, Or.inl ?hyF102⟩) ?restF102
                      case hyF102 => (intro w' kk ss; skip; go_simp; first | done | with_reducible rfl)
                      try simp only [Act.put, List.setIfInBounds_toArray, List.set_cons_zero, List.set_cons_succ]
                      refine' Reg.wpG_take (i := 45) (oi := { dst := some 167, op := Op.call { callee := Callee.builtin Builtin.len, args := #[Operand.tmp 166], argTypes := #[44] }, type := 3, pos := "law.go:184", after := #[{ on := 44, ground := Ground.data }, { on := 43, ground := Ground.guard }], guard := some (43, false) }) (v := _) [46, 47] [] rfl rfl (by kernel_rfl) (by kernel_rfl) (by kernel_rfl) (by kernel_rfl) (by kernel_rfl) (by kernel_rfl) (by kernel_rfl) (fun _ _ _ h => h) (Or.inl ⟨by rfl, Or.inl ?hyF103⟩) ?restF103
                      case hyF103 => (intro w' kk ss; skip; go_simp; first | done | with_reducible rfl)
                      try simp only [Act.put, List.setIfInBounds_toArray, List.set_cons_zero, List.set_cons_succ]
                      refine' Reg.wpG_take (i := 46) (oi := { dst := some 168, op := Op.binOp BinOp.gtr 3 (Operand.tmp 167) (Operand.const (Value.int IntKind.i64 1)) 3, type := 4, pos := "law.go:184", after := #[{ on := 45, ground := Ground.data }, { on := 43, ground := Ground.guard }], guard := some (43, false) }) (v := _) [47] [] rfl rfl (by kernel_rfl) (by kernel_rfl) (by kernel_rfl) (by kernel_rfl) (by kernel_rfl) (by kernel_rfl) (by kernel_rfl) (fun _ _ _ h => h) (Or.inl ⟨by rfl, Or.inl ?hyF104⟩) ?restF104
                      case hyF104 => (intro w' kk ss; skip; go_simp; first | done | with_reducible rfl)
                      try simp only [Act.put, List.setIfInBounds_toArray, List.set_cons_zero, List.set_cons_succ]
                      refine' Reg.wpG_take (i := 47) (oi := { dst := some 169, op := Op.pick (Operand.tmp 165) (Operand.const (Value.bool true)) (Operand.tmp 168), type := 4, pos := "law.go:184", after := #[{ on := 43, ground := Ground.data }, { on := 46, ground := Ground.data }], guard := none }) (v := _) [] [] rfl rfl (by kernel_rfl) (by kernel_rfl) (by kernel_rfl) (by kernel_rfl) (by kernel_rfl) (by kernel_rfl) (by kernel_rfl) (fun _ _ _ h => h) (Or.inl ⟨by rfl, Or.inl ?hyF105⟩) ?restF105
                      case hyF105 => (intro w' kk ss; skip; go_simp; first | done | with_reducible rfl)
                      try simp only [Act.put, List.setIfInBounds_toArray, List.set_cons_zero, List.set_cons_succ]
                      refine Reg.wpG_done (by kernel_rfl) (fun wq ke se => ?_) _
                      refine NoPanic.normal ?_
                      have hr0 := hr0.trans ke
                      clear ke
                      go_wp2
                      go_roundw
                      case rel => exact ⟨k + 1, G, _, _, by go_num, by omega, by omega, by omega, L9.out.since hr0⟩
                      case measure => simp [intOf]; omega
                  · injection e with e1 e2
                    injection e2 with e2 e3
                    subst e1 e2 e3 hxk
                    have C1 := Lib.hid (show (told 0 (s1.F.set kc true)).length = 1 by rw [HF1.out, told_one hkc]; rfl)
                    have CT := Lib.hid (show told 0 (s1.F.set kc true) = [(kc : Int)] by rw [HF1.out, told_one hkc])
                    go_wp2_with (go_at_call 20; (with_reducible refine (changed_at (L7.out.since KI.out) (by omega) (changed_eta _) C1.out).mono ?_); rintro e w9 ⟨Ad, cd, rfl, hc9, l9, v9⟩; have L9 := Lib.hid l9; have V9 := Lib.hid v9; have HC9 := Lib.hid hc9; clear l9 v9 hc9)
                    have hc9 := HC9.out
                    rw [CT.out] at hc9
                    obtain ⟨gc, oc, rfl, q0⟩ := elI hc9 (i := 0) (by simp)
                    have W9 := (HW8.out.since stD (Since.veil HWI.out G)).since stD V9.out
                    have N9 := (HN8.out.since stD (Since.veil HWI.out G)).since stD V9.out
                    have hk2 : kc < (s1.D.set kc (meet y dd)).length := by simp; exact hkc
                    obtain ⟨gn, on, Bn, dn, rfl, Sn, e0⟩ := elD N9 hk2
                    obtain ⟨gw, ow, Bw, dw, rfl, Sw, e1⟩ := elD W9 hkc
                    have g1 : s1.D[kc] = y := by
                      have h := List.getElem?_eq_getElem hkc
                      rw [hyk] at h
                      exact (Option.some.inj h).symm
                    have g2 : (s1.D.set kc (meet y dd))[kc] = meet y dd := by simp
                    rw [g1] at Sw e1
                    rw [g2] at Sn e0
                    clear g1 g2
                    have E5 := (veil_cell (((BA8.out.since (Since.veil HWI.out G)).since V9.out).cell 1)).1
                    have hne : decide (y = meet y dd) = false := decide_eq_false fun h => by
                      have h1 := same_ne (meet_right y dd) hsm
                      exact h1 h.symm
                    have RA := Lib.hid (fun W (kk : Since w9 W) => ranges_at ((sl_unveil Sw).since stR kk) ((sl_unveil Sn).since stR kk) (right_len (meet_right y dd)) hne)
                    obtain ⟨pn, hpn⟩ : ∃ p, p = (meet y dd).length := ⟨_, rfl⟩
                    obtain ⟨pw, hpw⟩ : ∃ p, p = y.length := ⟨_, rfl⟩
                    have F0 := (veil_cell q0).1
                    have F2 := (veil_cell e1).1
                    have F3 := (veil_cell e0).1
                    rw [← hpn] at F3 RA
                    rw [← hpw] at F2 RA
                    have HC := Lib.hid (fun W (kk : Since w9 W) => (show W.cell? ⟨gc, oc + 0, none⟩ = _ ∧ W.cell? ⟨wo.heap.size, 1, none⟩ = _ ∧ W.cell? ⟨gw, ow + kc, none⟩ = _ ∧ W.cell? ⟨gn, on + kc, none⟩ = _ from ⟨(kk.cell _ (World.block_lt_of_cell? _ _ F0)).trans F0, (kk.cell _ (World.block_lt_of_cell? _ _ E5)).trans E5, (kk.cell _ (World.block_lt_of_cell? _ _ F2)).trans F2, (kk.cell _ (World.block_lt_of_cell? _ _ F3)).trans F3⟩))
                    have hkn9 : kc < nD := by have := HND1.out; omega
                    clear E2 E5 F0 F2 F3 W9 N9 Sn Sw e0 e1 q0 hc9 hpn hpw hne hyk hsm hkc hk2
                    simp only [Nat.add_zero] at HC
                    as_aux_lemma =>
                      have hr0 : Since w9 w9.drew := Since.drew (Since.refl w9)
                      refine wp_region_noPanic ?_
                      refine Reg.wp_region_G (S := fun _ => True) (fun j => [].contains j) (by kernel_rfl) trivial ?_
                      refine' Reg.wpG_take (i := 0) (oi := { dst := some 122, op := Op.move (Operand.tmp 9), type := 4, pos := "law.go:184", after := #[], guard := none }) (v := _) [4, 5, 6, 7, 8, 9, 10, 11, 12, 13, 14, 15, 16, 17, 18, 19, 20, 21, 22, 23, 24, 25, 26, 27, 28, 29, 30, 31, 32, 33, 34, 35, 36, 37, 38, 39, 40, 41, 42, 43, 44, 45, 46, 47] [] rfl rfl (by kernel_rfl) (by kernel_rfl) (by kernel_rfl) (by kernel_rfl) (by kernel_rfl) (by kernel_rfl) (by kernel_rfl) (fun _ _ _ h => h) (Or.inl ⟨by rfl, Or.inl ?hyY106⟩) ?restY106
                      case hyY106 => (intro w' kk ss; obtain ⟨u0, u1, u2, u3⟩ := HC.out _ (hr0.trans kk); go_simp; first | done | with_reducible rfl)
                      try simp only [Act.put, List.setIfInBounds_toArray, List.set_cons_zero, List.set_cons_succ]
                      refine' Reg.wpG_take (i := 1) (oi := { dst := some 123, op := Op.move (Operand.tmp 13), type := 44, pos := "law.go:184", after := #[], guard := none }) (v := _) [2, 3, 4, 5, 6, 7, 8, 9, 10, 11, 12, 13, 14, 15, 16, 17, 18, 19, 20, 21, 22, 23, 24, 25, 26, 27, 28, 29, 30, 31, 32, 33, 34, 35, 36, 37, 38, 39, 40, 41, 42, 43, 44, 45, 46, 47] [] rfl rfl (by kernel_rfl) (by kernel_rfl) (by kernel_rfl) (by kernel_rfl) (by kernel_rfl) (by kernel_rfl) (by kernel_rfl) (fun _ _ _ h => h) (Or.inl ⟨by rfl, Or.inl ?hyY107⟩) ?restY107
                      case hyY107 => (intro w' kk ss; obtain ⟨u0, u1, u2, u3⟩ := HC.out _ (hr0.trans kk); go_simp; first | done | with_reducible rfl)
                      try simp only [Act.put, List.setIfInBounds_toArray, List.set_cons_zero, List.set_cons_succ]
                      refine' Reg.wpG_take (i := 2) (oi := { dst := some 124, op := Op.call { callee := Callee.builtin Builtin.len, args := #[Operand.tmp 123], argTypes := #[44] }, type := 3, pos := "law.go:184", after := #[{ on := 1, ground := Ground.data }], guard := none }) (v := _) [3, 4, 5, 6, 7, 8, 9, 10, 11, 12, 13, 14, 15, 16, 17, 18, 19, 20, 21, 22, 23, 24, 25, 26, 27, 28, 29, 30, 31, 32, 33, 34, 35, 36, 37, 38, 39, 40, 41, 42, 43, 44, 45, 46, 47] [] rfl rfl (by kernel_rfl) (by kernel_rfl) (by kernel_rfl) (by kernel_rfl) (by kernel_rfl) (by kernel_rfl) (by kernel_rfl) (fun _ _ _ h => h) (Or.inl ⟨by rfl, Or.inl ?hyY108⟩) ?restY108
                      case hyY108 => (intro w' kk ss; obtain ⟨u0, u1, u2, u3⟩ := HC.out _ (hr0.trans kk); go_simp; first | done | with_reducible rfl)
                      try simp only [Act.put, List.setIfInBounds_toArray, List.set_cons_zero, List.set_cons_succ]
                      refine' Reg.wpG_take (i := 3) (oi := { dst := some 125, op := Op.binOp BinOp.eql 3 (Operand.tmp 124) (Operand.const (Value.int IntKind.i64 1)) 3, type := 4, pos := "law.go:184", after := #[{ on := 2, ground := Ground.data }], guard := none }) (v := _) [4, 5, 6, 7, 8, 9, 10, 11, 12, 13, 14, 15, 16, 17, 18, 19, 20, 21, 22, 23, 24, 25, 26, 27, 28, 29, 30, 31, 32, 33, 34, 35, 36, 37, 38, 39, 40, 41, 42, 43, 44, 45, 46, 47] [] rfl rfl (by kernel_rfl) (by kernel_rfl) (by kernel_rfl) (by kernel_rfl) (by kernel_rfl) (by kernel_rfl) (by kernel_rfl) (fun _ _ _ h => h) (Or.inl ⟨by rfl, Or.inl ?hyY109⟩) ?restY109
                      case hyY109 => (intro w' kk ss; obtain ⟨u0, u1, u2, u3⟩ := HC.out _ (hr0.trans kk); go_simp; first | done | with_reducible rfl)
                      try simp only [Act.put, List.setIfInBounds_toArray, List.set_cons_zero, List.set_cons_succ]
                      refine' Reg.wpG_take (i := 4) (oi := { dst := some 126, op := Op.binOp BinOp.neq 4 (Operand.tmp 122) (Operand.tmp 125) 4, type := 4, pos := "law.go:184", after := #[{ on := 0, ground := Ground.data }, { on := 3, ground := Ground.data }], guard := none }) (v := _) [5, 6, 7, 8, 9, 10, 11, 12, 13, 14, 15, 16, 17, 18, 19, 20, 21, 22, 23, 24, 25, 26, 27, 28, 29, 30, 31, 32, 33, 34, 35, 36, 37, 38, 39, 40, 41, 42, 43, 44, 45, 46, 47] [] rfl rfl (by kernel_rfl) (by kernel_rfl) (by kernel_rfl) (by kernel_rfl) (by kernel_rfl) (by kernel_rfl) (by kernel_rfl) (fun _ _ _ h => h) (Or.inl ⟨by rfl, Or.inl ?hyY110⟩) ?restY110
                      case hyY110 => (intro w' kk ss; obtain ⟨u0, u1, u2, u3⟩ := HC.out _ (hr0.trans kk); go_simp; first | done | with_reducible rfl)
                      try simp only [Act.put, List.setIfInBounds_toArray, List.set_cons_zero, List.set_cons_succ]
                      refine' Reg.wpG_take (i := 5) (oi := { dst := some 127, op := Op.move (Operand.tmp 126), type := 4, pos := "law.go:184", after := #[{ on := 4, ground := Ground.data }], guard := none }) (v := _) [6, 7, 8, 9, 10, 11, 12, 13, 14, 15, 16, 17, 18, 19, 20, 21, 22, 23, 24, 25, 26, 27, 28, 29, 30, 31, 32, 33, 34, 35, 36, 37, 38, 39, 40, 41, 42, 43, 44, 45, 46, 47] [] rfl rfl (by kernel_rfl) (by kernel_rfl) (by kernel_rfl) (by kernel_rfl) (by kernel_rfl) (by kernel_rfl) (by kernel_rfl) (fun _ _ _ h => h) (Or.inl ⟨by rfl, Or.inl ?hyY111⟩) ?restY111
                      case hyY111 => (intro w' kk ss; obtain ⟨u0, u1, u2, u3⟩ := HC.out _ (hr0.trans kk); go_simp; first | done | with_reducible rfl)
                      try simp only [Act.put, List.setIfInBounds_toArray, List.set_cons_zero, List.set_cons_succ]
                      refine' Reg.wpG_take (i := 6) (oi := { dst := some 128, op := Op.move (Operand.tmp 9), type := 4, pos := "law.go:184", after := #[{ on := 5, ground := Ground.guard }], guard := some (5, false) }) (v := _) [7, 8, 9, 10, 11, 12, 13, 14, 15, 16, 17, 18, 19, 20, 21, 22, 23, 24, 25, 26, 27, 28, 29, 30, 31, 32, 33, 34, 35, 36, 37, 38, 39, 40, 41, 42, 43, 44, 45, 46, 47] [] rfl rfl (by kernel_rfl) (by kernel_rfl) (by kernel_rfl) (by kernel_rfl) (by kernel_rfl) (by kernel_rfl) (by kernel_rfl) (fun _ _ _ h => h) (Or.inl ⟨by rfl, Or.inl ?hyY112⟩) ?restY112
                      case hyY112 => (intro w' kk ss; obtain ⟨u0, u1, u2, u3⟩ := HC.out _ (hr0.trans kk); go_simp; first | done | with_reducible rfl)
                      try simp only [Act.put, List.setIfInBounds_toArray, List.set_cons_zero, List.set_cons_succ]
                      refine' Reg.wpG_take (i := 7) (oi := { dst := some 129, op := Op.move (Operand.tmp 128), type := 4, pos := "law.go:184", after := #[{ on := 6, ground := Ground.data }, { on := 5, ground := Ground.chain }, { on := 5, ground := Ground.guard }], guard := some (5, false) }) (v := _) [8, 9, 10, 11, 12, 13, 14, 15, 16, 17, 18, 19, 20, 21, 22, 23, 24, 25, 26, 27, 28, 29, 30, 31, 32, 33, 34, 35, 36, 37, 38, 39, 40, 41, 42, 43, 44, 45, 46, 47] [] rfl rfl (by kernel_rfl) (by kernel_rfl) (by kernel_rfl) (by kernel_rfl) (by kernel_rfl) (by kernel_rfl) (by kernel_rfl) (fun _ _ _ h => h) (Or.inl ⟨by rfl, Or.inl ?hyY113⟩) ?restY113
                      case hyY113 => (intro w' kk ss; obtain ⟨u0, u1, u2, u3⟩ := HC.out _ (hr0.trans kk); go_simp; first | done | with_reducible rfl)
                      try simp only [Act.put, List.setIfInBounds_toArray, List.set_cons_zero, List.set_cons_succ]
                      refine' Reg.wpG_take (i := 8) (oi := { dst := some 130, op := Op.move (Operand.tmp 13), type := 44, pos := "law.go:184", after := #[{ on := 7, ground := Ground.guard }], guard := some (7, true) }) (v := _) [9, 10, 13, 14, 15, 16, 17, 18, 19, 20, 21, 22, 23, 24, 25, 26, 27, 28, 29, 30, 31, 32, 33, 34, 35, 36, 37, 38, 39, 40, 41, 42, 43, 44, 45, 46, 47] [] rfl rfl (by kernel_rfl) (by kernel_rfl) (by kernel_rfl) (by kernel_rfl) (by kernel_rfl) (by kernel_rfl) (by kernel_rfl) (fun _ _ _ h => h) (Or.inl ⟨by rfl, Or.inl ?hyY114⟩) ?restY114
                      case hyY114 => (intro w' kk ss; obtain ⟨u0, u1, u2, u3⟩ := HC.out _ (hr0.trans kk); go_simp; first | done | with_reducible rfl)
                      try simp only [Act.put, List.setIfInBounds_toArray, List.set_cons_zero, List.set_cons_succ]
                      refine' Reg.wpG_take (i := 9) (oi := { dst := some 131, op := Op.indexAddr 44 (Operand.tmp 130) (Operand.const (Value.int IntKind.i64 0)), type := 0, pos := "law.go:184", after := #[{ on := 8, ground := Ground.data }, { on := 7, ground := Ground.guard }], guard := some (7, true) }) (v := _) [10, 13, 14, 15, 16, 17, 18, 19, 20, 21, 22, 23, 24, 25, 26, 27, 28, 29, 30, 31, 32, 33, 34, 35, 36, 37, 38, 39, 40, 41, 42, 43, 44, 45, 46, 47] [] rfl rfl (by kernel_rfl) (by kernel_rfl) (by kernel_rfl) (by kernel_rfl) (by kernel_rfl) (by kernel_rfl) (by kernel_rfl) (fun _ _ _ h => h) (Or.inl ⟨by rfl, Or.inl ?hyY115⟩) ?restY115
                      case hyY115 => (intro w' kk ss; obtain ⟨u0, u1, u2, u3⟩ := HC.out _ (hr0.trans kk); go_simp; first | done | with_reducible rfl)
                      try simp only [Act.put, List.setIfInBounds_toArray, List.set_cons_zero, List.set_cons_succ]
                      refine' Reg.wpG_take (i := 10) (oi := { dst := some 132, op := Op.load 3 (Operand.tmp 131), type := 3, pos := "law.go:184", after := #[{ on := 9, ground := Ground.data }, { on := 7, ground := Ground.guard }], guard := some (7, true) }) (v := _) [13, 14, 15, 16, 17, 18, 19, 20, 21, 22, 23, 24, 25, 26, 27, 28, 29, 30, 31, 32, 33, 34, 35, 36, 37, 38, 39, 40, 41, 42, 43, 44, 45, 46, 47] [] rfl rfl (by kernel_rfl) (by kernel_rfl) (by kernel_rfl) (by kernel_rfl) (by kernel_rfl) (by kernel_rfl) (by kernel_rfl) (fun _ _ _ h => h) (Or.inl ⟨by rfl, Or.inl ?hyY116⟩) ?restY116
                      case hyY116 => (intro w' kk ss; obtain ⟨u0, u1, u2, u3⟩ := HC.out _ (hr0.trans kk); go_simp; first | done | with_reducible rfl)
                      try simp only [Act.put, List.setIfInBounds_toArray, List.set_cons_zero, List.set_cons_succ]
                      refine' Reg.wpG_take (i := 11) (oi := { dst := some 133, op := Op.fieldAddr 35 (Operand.tmp 7) 1, type := 0, pos := "law.go:184", after := #[{ on := 7, ground := Ground.guard }], guard := some (7, true) }) (v := _) [12, 13, 14, 15, 16, 17, 18, 19, 20, 21, 22, 23, 24, 25, 26, 27, 28, 29, 30, 31, 32, 33, 34, 35, 36, 37, 38, 39, 40, 41, 42, 43, 44, 45, 46, 47] [] rfl rfl (by kernel_rfl) (by kernel_rfl) (by kernel_rfl) (by kernel_rfl) (by kernel_rfl) (by kernel_rfl) (by kernel_rfl) (fun _ _ _ h => h) (Or.inl ⟨by rfl, Or.inl ?hyY117⟩) ?restY117
                      case hyY117 => (intro w' kk ss; obtain ⟨u0, u1, u2, u3⟩ := HC.out _ (hr0.trans kk); go_simp; first | done | with_reducible rfl)
                      try simp only [Act.put, List.setIfInBounds_toArray, List.set_cons_zero, List.set_cons_succ]
                      refine' Reg.wpG_take (i := 12) (oi := { dst := some 134, op := Op.load 3 (Operand.tmp 133), type := 3, pos := "law.go:184", after := #[{ on := 11, ground := Ground.data }, { on := 7, ground := Ground.guard }], guard := some (7, true) }) (v := _) [13, 14, 15, 16, 17, 18, 19, 20, 21, 22, 23, 24, 25, 26, 27, 28, 29, 30, 31, 32, 33, 34, 35, 36, 37, 38, 39, 40, 41, 42, 43, 44, 45, 46, 47] [] rfl rfl (by kernel_rfl) (by kernel_rfl) (by kernel_rfl) (by kernel_rfl) (by kernel_rfl) (by kernel_rfl) (by kernel_rfl) (fun _ _ _ h => h) (Or.inl ⟨by rfl, Or.inl ?hyY118⟩) ?restY118
                      case hyY118 => (intro w' kk ss; obtain ⟨u0, u1, u2, u3⟩ := HC.out _ (hr0.trans kk); go_simp; first | done | with_reducible rfl)
                      try simp only [Act.put, List.setIfInBounds_toArray, List.set_cons_zero, List.set_cons_succ]
                      refine' Reg.wpG_take (i := 13) (oi := { dst := some 135, op := Op.binOp BinOp.neq 3 (Operand.tmp 132) (Operand.tmp 134) 3, type := 4, pos := "law.go:184", after := #[{ on := 10, ground := Ground.data }, { on := 12, ground := Ground.data }, { on := 7, ground := Ground.guard }], guard := some (7, true) }) (v := _) [14, 15, 16, 17, 18, 19, 20, 21, 22, 23, 24, 25, 26, 27, 28, 29, 30, 31, 32, 33, 34, 35, 36, 37, 38, 39, 40, 41, 42, 43, 44, 45, 46, 47] [] rfl rfl (by kernel_rfl) (by kernel_rfl) (by kernel_rfl) (by kernel_rfl) (by kernel_rfl) (by kernel_rfl) (by kernel_rfl) (fun _ _ _ h => h) (Or.inl ⟨by rfl, Or.inl ?hyY119⟩) ?restY119
                      case hyY119 => (intro w' kk ss; obtain ⟨u0, u1, u2, u3⟩ := HC.out _ (hr0.trans kk); go_simp; first | done | with_reducible rfl)
                      try simp only [Act.put, List.setIfInBounds_toArray, List.set_cons_zero, List.set_cons_succ]
                      refine' Reg.wpG_take (i := 14) (oi := { dst := some 136, op := Op.move (Operand.tmp 135), type := 4, pos := "law.go:184", after := #[{ on := 13, ground := Ground.data }, { on := 7, ground := Ground.chain }, { on := 7, ground := Ground.guard }], guard := some (7, true) }) (v := _) [15, 16, 17, 18, 19, 20, 21, 22, 23, 24, 25, 26, 27, 28, 29, 30, 31, 32, 33, 34, 35, 36, 37, 38, 39, 40, 41, 42, 43, 44, 45, 46, 47] [] rfl rfl (by kernel_rfl) (by kernel_rfl) (by kernel_rfl) (by kernel_rfl) (by kernel_rfl) (by kernel_rfl) (by kernel_rfl) (fun _ _ _ h => h) (Or.inl ⟨by rfl, Or.inl ?hyY120⟩) ?restY120
                      case hyY120 => (intro w' kk ss; obtain ⟨u0, u1, u2, u3⟩ := HC.out _ (hr0.trans kk); go_simp; first | done | with_reducible rfl)
                      try simp only [Act.put, List.setIfInBounds_toArray, List.set_cons_zero, List.set_cons_succ]
                      refine' Reg.wpG_take (i := 15) (oi := { dst := some 137, op := Op.move (Operand.tmp 10), type := 36, pos := "law.go:184", after := #[{ on := 14, ground := Ground.guard }], guard := some (14, false) }) (v := _) [16, 17, 18, 19, 20, 21, 22, 23, 24, 25, 26, 27, 28, 29, 30, 31, 32, 33, 34, 35, 36, 37, 38, 39, 40, 41, 42, 43, 44, 45, 46, 47] [] rfl rfl (by kernel_rfl) (by kernel_rfl) (by kernel_rfl) (by kernel_rfl) (by kernel_rfl) (by kernel_rfl) (by kernel_rfl) (fun _ _ _ h => h) (Or.inl ⟨by rfl, Or.inl ?hyY121⟩) ?restY121
                      case hyY121 => (intro w' kk ss; obtain ⟨u0, u1, u2, u3⟩ := HC.out _ (hr0.trans kk); go_simp; first | done | with_reducible rfl)
                      try simp only [Act.put, List.setIfInBounds_toArray, List.set_cons_zero, List.set_cons_succ]
                      refine' Reg.wpG_take (i := 16) (oi := { dst := some 138, op := Op.binOp BinOp.neq 36 (Operand.tmp 137) (Operand.const (Value.int IntKind.i64 0)) 36, type := 4, pos := "law.go:184", after := #[{ on := 15, ground := Ground.data }, { on := 14, ground := Ground.guard }], guard := some (14, false) }) (v := _) [17, 18, 19, 20, 21, 22, 23, 24, 25, 26, 27, 28, 29, 30, 31, 32, 33, 34, 35, 36, 37, 38, 39, 40, 41, 42, 43, 44, 45, 46, 47] [] rfl rfl (by kernel_rfl) (by kernel_rfl) (by kernel_rfl) (by kernel_rfl) (by kernel_rfl) (by kernel_rfl) (by kernel_rfl) (fun _ _ _ h => h) (Or.inl ⟨by rfl, Or.inl ?hyY122⟩) ?restY122
                      case hyY122 => (intro w' kk ss; obtain ⟨u0, u1, u2, u3⟩ := HC.out _ (hr0.trans kk); go_simp; first | done | with_reducible rfl)
                      try simp only [Act.put, List.setIfInBounds_toArray, List.set_cons_zero, List.set_cons_succ]
                      refine' Reg.wpG_take (i := 17) (oi := { dst := some 139, op := Op.pick (Operand.tmp 136) (Operand.const (Value.bool true)) (Operand.tmp 138), type := 4, pos := "law.go:184", after := #[{ on := 14, ground := Ground.data }, { on := 16, ground := Ground.data }, { on := 7, ground := Ground.guard }], guard := some (7, true) }) (v := _) [18, 19, 20, 21, 22, 23, 24, 25, 26, 27, 28, 29, 30, 31, 32, 33, 34, 35, 36, 37, 38, 39, 40, 41, 42, 43, 44, 45, 46, 47] [] rfl rfl (by kernel_rfl) (by kernel_rfl) (by kernel_rfl) (by kernel_rfl) (by kernel_rfl) (by kernel_rfl) (by kernel_rfl) (fun _ _ _ h => h) (Or.inl ⟨by rfl, Or.inl ?hyY123⟩) ?restY123
                      case hyY123 => (intro w' kk ss; obtain ⟨u0, u1, u2, u3⟩ := HC.out _ (hr0.trans kk); go_simp; first | done | with_reducible rfl)
                      try simp only [Act.put, List.setIfInBounds_toArray, List.set_cons_zero, List.set_cons_succ]
                      refine' Reg.wpG_take (i := 18) (oi := { dst := some 140, op := Op.move (Operand.tmp 139), type := 4, pos := "law.go:184", after := #[{ on := 17, ground := Ground.data }, { on := 14, ground := Ground.chain }, { on := 7, ground := Ground.guard }], guard := some (7, true) }) (v := _) [19, 20, 21, 22, 23, 24, 25, 26, 27, 28, 29, 30, 31, 32, 33, 34, 35, 36, 37, 38, 39, 40, 41, 42, 43, 44, 45, 46, 47] [] rfl rfl (by kernel_rfl) (by kernel_rfl) (by kernel_rfl) (by kernel_rfl) (by kernel_rfl) (by kernel_rfl) (by kernel_rfl) (fun _ _ _ h => h) (Or.inl ⟨by rfl, Or.inl ?hyY124⟩) ?restY124
                      case hyY124 => (intro w' kk ss; obtain ⟨u0, u1, u2, u3⟩ := HC.out _ (hr0.trans kk); go_simp; first | done | with_reducible rfl)
                      try simp only [Act.put, List.setIfInBounds_toArray, List.set_cons_zero, List.set_cons_succ]
                      refine' Reg.wpG_take (i := 19) (oi := { dst := some 141, op := Op.move (Operand.tmp 8), type := 22, pos := "law.go:184", after := #[{ on := 18, ground := Ground.guard }], guard := some (18, false) }) (v := _) [22, 23, 29, 30, 31, 32, 33, 34, 35, 36, 37, 38, 39, 40, 41, 42, 43, 44, 45, 46, 47] [] rfl rfl (by kernel_rfl) (by kernel_rfl) (by kernel_rfl) (by kernel_rfl) (by kernel_rfl) (by kernel_rfl) (by kernel_rfl) (fun _ _ _ h => h) (Or.inl ⟨by rfl, Or.inl ?hyY125⟩) ?restY125
                      case hyY125 => (intro w' kk ss; obtain ⟨u0, u1, u2, u3⟩ := HC.out _ (hr0.trans kk); go_simp; first | done | with_reducible rfl)
                      try simp only [Act.put, List.setIfInBounds_toArray, List.set_cons_zero, List.set_cons_succ]
                      refine' Reg.wpG_take (i := 20) (oi := { dst := some 142, op := Op.fieldAddr 35 (Operand.tmp 7) 1, type := 0, pos := "law.go:184", after := #[{ on := 18, ground := Ground.guard }], guard := some (18, false) }) (v := _) [21, 22, 23, 29, 30, 31, 32, 33, 34, 35, 36, 37, 38, 39, 40, 41, 42, 43, 44, 45, 46, 47] [] rfl rfl (by kernel_rfl) (by kernel_rfl) (by kernel_rfl) (by kernel_rfl) (by kernel_rfl) (by kernel_rfl) (by kernel_rfl) (fun _ _ _ h => h) (Or.inl ⟨by rfl, Or.inl ?hyY126⟩) ?restY126
                      case hyY126 => (intro w' kk ss; obtain ⟨u0, u1, u2, u3⟩ := HC.out _ (hr0.trans kk); go_simp; first | done | with_reducible rfl)
                      try simp only [Act.put, List.setIfInBounds_toArray, List.set_cons_zero, List.set_cons_succ]
                      refine' Reg.wpG_take (i := 21) (oi := { dst := some 143, op := Op.load 3 (Operand.tmp 142), type := 3, pos := "law.go:184", after := #[{ on := 20, ground := Ground.data }, { on := 18, ground := Ground.guard }], guard := some (18, false) }) (v := _) [22, 23, 29, 30, 31, 32, 33, 34, 35, 36, 37, 38, 39, 40, 41, 42, 43, 44, 45, 46, 47] [] rfl rfl (by kernel_rfl) (by kernel_rfl) (by kernel_rfl) (by kernel_rfl) (by kernel_rfl) (by kernel_rfl) (by kernel_rfl) (fun _ _ _ h => h) (Or.inl ⟨by rfl, Or.inl ?hyY127⟩) ?restY127
                      case hyY127 => (intro w' kk ss; obtain ⟨u0, u1, u2, u3⟩ := HC.out _ (hr0.trans kk); go_simp; first | done | with_reducible rfl)
                      try simp only [Act.put, List.setIfInBounds_toArray, List.set_cons_zero, List.set_cons_succ]
                      refine' Reg.wpG_take (i := 22) (oi := { dst := some 144, op := Op.indexAddr 22 (Operand.tmp 141) (Operand.tmp 143), type := 0, pos := "law.go:184", after := #[{ on := 19, ground := Ground.data }, { on := 21, ground := Ground.data }, { on := 18, ground := Ground.guard }], guard := some (18, false) }) (v := _) [23, 29, 30, 31, 32, 33, 34, 35, 36, 37, 38, 39, 40, 41, 42, 43, 44, 45, 46, 47] [] rfl rfl (by kernel_rfl) (by kernel_rfl) (by kernel_rfl) (by kernel_rfl) (by kernel_rfl) (by kernel_rfl) (by kernel_rfl) (fun _ _ _ h => h) (Or.inl ⟨by rfl, Or.inl ?hyY128⟩) ?restY128
                      case hyY128 => (intro w' kk ss; obtain ⟨u0, u1, u2, u3⟩ := HC.out _ (hr0.trans kk); go_simp; first | done | with_reducible rfl)
                      try simp only [Act.put, List.setIfInBounds_toArray, List.set_cons_zero, List.set_cons_succ]
                      refine' Reg.wpG_take (i := 23) (oi := { dst := some 145, op := Op.load 33 (Operand.tmp 144), type := 33, pos := "law.go:184", after := #[{ on := 22, ground := Ground.data }, { on := 18, ground := Ground.guard }], guard := some (18, false) }) (v := _) [29, 30, 31, 32, 33, 34, 35, 36, 37, 38, 39, 40, 41, 42, 43, 44, 45, 46, 47] [] rfl rfl (by kernel_rfl) (by kernel_rfl) (by kernel_rfl) (by kernel_rfl) (by kernel_rfl) (by kernel_rfl) (by kernel_rfl) (fun _ _ _ h => h) (Or.inl ⟨by rfl, Or.inl ?hyY129⟩) ?restY129
                      case hyY129 => (intro w' kk ss; obtain ⟨u0, u1, u2, u3⟩ := HC.out _ (hr0.trans kk); go_simp; first | done | with_reducible rfl)
                      try simp only [Act.put, List.setIfInBounds_toArray, List.set_cons_zero, List.set_cons_succ]
                      refine' Reg.wpG_take (i := 24) (oi := { dst := some 146, op := Op.move (Operand.tmp 11), type := 22, pos := "law.go:184", after := #[{ on := 18, ground := Ground.guard }], guard := some (18, false) }) (v := _) [27, 28, 29, 30, 31, 32, 33, 34, 35, 36, 37, 38, 39, 40, 41, 42, 43, 44, 45, 46, 47] [] rfl rfl (by kernel_rfl) (by kernel_rfl) (by kernel_rfl) (by kernel_rfl) (by kernel_rfl) (by kernel_rfl) (by kernel_rfl) (fun _ _ _ h => h) (Or.inl ⟨by rfl, Or.inl ?hyY130⟩) ?restY130
                      case hyY130 => (intro w' kk ss; obtain ⟨u0, u1, u2, u3⟩ := HC.out _ (hr0.trans kk); go_simp; first | done | with_reducible rfl)
                      try simp only [Act.put, List.setIfInBounds_toArray, List.set_cons_zero, List.set_cons_succ]
                      refine' Reg.wpG_take (i := 25) (oi := { dst := some 147, op := Op.fieldAddr 35 (Operand.tmp 7) 1, type := 0, pos := "law.go:184", after := #[{ on := 18, ground := Ground.guard }], guard := some (18, false) }) (v := _) [26, 27, 28, 29, 30, 31, 32, 33, 34, 35, 36, 37, 38, 39, 40, 41, 42, 43, 44, 45, 46, 47] [] rfl rfl (by kernel_rfl) (by kernel_rfl) (by kernel_rfl) (by kernel_rfl) (by kernel_rfl) (by kernel_rfl) (by kernel_rfl) (fun _ _ _ h => h) (Or.inl ⟨by rfl, Or.inl ?hyY131⟩) ?restY131
                      case hyY131 => (intro w' kk ss; obtain ⟨u0, u1, u2, u3⟩ := HC.out _ (hr0.trans kk); go_simp; first | done | with_reducible rfl)
                      try simp only [Act.put, List.setIfInBounds_toArray, List.set_cons_zero, List.set_cons_succ]
                      refine' Reg.wpG_take (i := 26) (oi := { dst := some 148, op := Op.load 3 (Operand.tmp 147), type := 3, pos := "law.go:184", after := #[{ on := 25, ground := Ground.data }, { on := 18, ground := Ground.guard }], guard := some (18, false) }) (v := _) [27, 28, 29, 30, 31, 32, 33, 34, 35, 36, 37, 38, 39, 40, 41, 42, 43, 44, 45, 46, 47] [] rfl rfl (by kernel_rfl) (by kernel_rfl) (by kernel_rfl) (by kernel_rfl) (by kernel_rfl) (by kernel_rfl) (by kernel_rfl) (fun _ _ _ h => h) (Or.inl ⟨by rfl, Or.inl ?hyY132⟩) ?restY132
                      case hyY132 => (intro w' kk ss; obtain ⟨u0, u1, u2, u3⟩ := HC.out _ (hr0.trans kk); go_simp; first | done | with_reducible rfl)
                      try simp only [Act.put, List.setIfInBounds_toArray, List.set_cons_zero, List.set_cons_succ]
                      refine' Reg.wpG_take (i := 27) (oi := { dst := some 149, op := Op.indexAddr 22 (Operand.tmp 146) (Operand.tmp 148), type := 0, pos := "law.go:184", after := #[{ on := 24, ground := Ground.data }, { on := 26, ground := Ground.data }, { on := 18, ground := Ground.guard }], guard := some (18, false) }) (v := _) [28, 29, 30, 31, 32, 33, 34, 35, 36, 37, 38, 39, 40, 41, 42, 43, 44, 45, 46, 47] [] rfl rfl (by kernel_rfl) (by kernel_rfl) (by kernel_rfl) (by kernel_rfl) (by kernel_rfl) (by kernel_rfl) (by kernel_rfl) (fun _ _ _ h => h) (Or.inl ⟨by rfl, Or.inl ?hyY133⟩) ?restY133
                      case hyY133 => (intro w' kk ss; obtain ⟨u0, u1, u2, u3⟩ := HC.out _ (hr0.trans kk); go_simp; first | done | with_reducible rfl)
                      try simp only [Act.put, List.setIfInBounds_toArray, List.set_cons_zero, List.set_cons_succ]
                      refine' Reg.wpG_take (i := 28) (oi := { dst := some 150, op := Op.load 33 (Operand.tmp 149), type := 33, pos := "law.go:184", after := #[{ on := 27, ground := Ground.data }, { on := 18, ground := Ground.guard }], guard := some (18, false) }) (v := _) [29, 30, 31, 32, 33, 34, 35, 36, 37, 38, 39, 40, 41, 42, 43, 44, 45, 46, 47] [] rfl rfl (by kernel_rfl) (by kernel_rfl) (by kernel_rfl) (by kernel_rfl) (by kernel_rfl) (by kernel_rfl) (by kernel_rfl) (fun _ _ _ h => h) (Or.inl ⟨by rfl, Or.inl ?hyY134⟩) ?restY134
                      case hyY134 => (intro w' kk ss; obtain ⟨u0, u1, u2, u3⟩ := HC.out _ (hr0.trans kk); go_simp; first | done | with_reducible rfl)
                      try simp only [Act.put, List.setIfInBounds_toArray, List.set_cons_zero, List.set_cons_succ]
                      refine Reg.wpG_take (i := 29) (oi := { dst := some 151, op := Op.call { callee := Callee.value (Operand.func 25), args := #[Operand.tmp 145, Operand.tmp 150], argTypes := #[33, 33] }, type := 4, pos := "law.go:184", after := #[{ on := 23, ground := Ground.data }, { on := 28, ground := Ground.data }, { on := 18, ground := Ground.chain }, { on := 18, ground := Ground.guard }], guard := some (18, false) }) (v := .bool false) [30, 31, 32, 33, 34, 35, 36, 37, 38, 39, 40, 41, 42, 43, 44, 45, 46, 47] [] rfl rfl (by kernel_rfl) (by kernel_rfl) (by kernel_rfl) (by kernel_rfl) (by kernel_rfl) (by kernel_rfl) (by kernel_rfl) (fun _ _ _ h => h) (Or.inl ⟨by rfl, Or.inr ⟨25, #[.slice Bw pw dw, .slice Bn pn dn], fun w' kk ss => ⟨?_, ?_⟩⟩⟩) ?_
                      · (try dsimp only at ss); go_simp
                      · exact (RA.out w' (hr0.trans kk)).mono fun e w'' h => ⟨h.1, h.2, trivial⟩
                      try simp only [Act.put, List.setIfInBounds_toArray, List.set_cons_zero, List.set_cons_succ]
                      refine' Reg.wpG_take (i := 30) (oi := { dst := some 152, op := Op.pick (Operand.tmp 140) (Operand.const (Value.bool true)) (Operand.tmp 151), type := 4, pos := "law.go:184", after := #[{ on := 18, ground := Ground.data }, { on := 29, ground := Ground.data }, { on := 7, ground := Ground.guard }], guard := some (7, true) }) (v := _) [31, 32, 33, 34, 35, 36, 37, 38, 39, 40, 41, 42, 43, 44, 45, 46, 47] [] rfl rfl (by kernel_rfl) (by kernel_rfl) (by kernel_rfl) (by kernel_rfl) (by kernel_rfl) (by kernel_rfl) (by kernel_rfl) (fun _ _ _ h => h) (Or.inl ⟨by rfl, Or.inl ?hyY135⟩) ?restY135
                      case hyY135 => (intro w' kk ss; obtain ⟨u0, u1, u2, u3⟩ := HC.out _ (hr0.trans kk); go_simp; first | done | with_reducible rfl)
                      try simp only [Act.put, List.setIfInBounds_toArray, List.set_cons_zero, List.set_cons_succ]
                      refine' Reg.wpG_take (i := 31) (oi := { dst := some 153, op := Op.pick (Operand.tmp 129) (Operand.tmp 152) (Operand.const (Value.bool false)), type := 4, pos := "law.go:184", after := #[{ on := 7, ground := Ground.data }, { on := 30, ground := Ground.data }, { on := 5, ground := Ground.guard }], guard := some (5, false) }) (v := _) [32, 33, 34, 35, 36, 37, 38, 39, 40, 41, 42, 43, 44, 45, 46, 47] [] rfl rfl (by kernel_rfl) (by kernel_rfl) (by kernel_rfl) (by kernel_rfl) (by kernel_rfl) (by kernel_rfl) (by kernel_rfl) (fun _ _ _ h => h) (Or.inl ⟨by rfl, Or.inl ?hyY136⟩) ?restY136
                      case hyY136 => (intro w' kk ss; obtain ⟨u0, u1, u2, u3⟩ := HC.out _ (hr0.trans kk); go_simp; first | done | with_reducible rfl)
                      try simp only [Act.put, List.setIfInBounds_toArray, List.set_cons_zero, List.set_cons_succ]
                      refine' Reg.wpG_take (i := 32) (oi := { dst := some 154, op := Op.pick (Operand.tmp 127) (Operand.const (Value.bool true)) (Operand.tmp 153), type := 4, pos := "law.go:184", after := #[{ on := 5, ground := Ground.data }, { on := 31, ground := Ground.data }], guard := none }) (v := _) [33, 34, 35, 36, 37, 38, 39, 40, 41, 42, 43, 44, 45, 46, 47] [] rfl rfl (by kernel_rfl) (by kernel_rfl) (by kernel_rfl) (by kernel_rfl) (by kernel_rfl) (by kernel_rfl) (by kernel_rfl) (fun _ _ _ h => h) (Or.inl ⟨by rfl, Or.inl ?hyY137⟩) ?restY137
                      case hyY137 => (intro w' kk ss; obtain ⟨u0, u1, u2, u3⟩ := HC.out _ (hr0.trans kk); go_simp; first | done | with_reducible rfl)
                      try simp only [Act.put, List.setIfInBounds_toArray, List.set_cons_zero, List.set_cons_succ]
                      refine' Reg.wpG_take (i := 33) (oi := { dst := some 155, op := Op.move (Operand.tmp 154), type := 4, pos := "law.go:184", after := #[{ on := 32, ground := Ground.data }, { on := 29, ground := Ground.chain }], guard := none }) (v := _) [34, 35, 36, 37, 38, 39, 40, 41, 42, 43, 44, 45, 46, 47] [] rfl rfl (by kernel_rfl) (by kernel_rfl) (by kernel_rfl) (by kernel_rfl) (by kernel_rfl) (by kernel_rfl) (by kernel_rfl) (fun _ _ _ h => h) (Or.inl ⟨by rfl, Or.inl ?hyY138⟩) ?restY138
                      case hyY138 => (intro w' kk ss; obtain ⟨u0, u1, u2, u3⟩ := HC.out _ (hr0.trans kk); go_simp; first | done | with_reducible rfl)
                      try simp only [Act.put, List.setIfInBounds_toArray, List.set_cons_zero, List.set_cons_succ]
                      refine' Reg.wpG_take (i := 34) (oi := { dst := some 156, op := Op.move (Operand.tmp 9), type := 4, pos := "law.go:184", after := #[{ on := 33, ground := Ground.guard }], guard := some (33, false) }) (v := _) [35, 36, 37, 38, 39, 40, 41, 42, 43, 44, 45, 46, 47] [] rfl rfl (by kernel_rfl) (by kernel_rfl) (by kernel_rfl) (by kernel_rfl) (by kernel_rfl) (by kernel_rfl) (by kernel_rfl) (fun _ _ _ h => h) (Or.inl ⟨by rfl, Or.inl ?hyY139⟩) ?restY139
                      case hyY139 => (intro w' kk ss; obtain ⟨u0, u1, u2, u3⟩ := HC.out _ (hr0.trans kk); go_simp; first | done | with_reducible rfl)
                      try simp only [Act.put, List.setIfInBounds_toArray, List.set_cons_zero, List.set_cons_succ]
                      refine' Reg.wpG_take (i := 35) (oi := { dst := some 157, op := Op.unOp UnOp.not 4 (Operand.tmp 156), type := 4, pos := "law.go:184", after := #[{ on := 34, ground := Ground.data }, { on := 33, ground := Ground.guard }], guard := some (33, false) }) (v := _) [36, 37, 38, 39, 40, 41, 42, 43, 44, 45, 46, 47] [] rfl rfl (by kernel_rfl) (by kernel_rfl) (by kernel_rfl) (by kernel_rfl) (by kernel_rfl) (by kernel_rfl) (by kernel_rfl) (fun _ _ _ h => h) (Or.inl ⟨by rfl, Or.inl ?hyY140⟩) ?restY140
                      case hyY140 => (intro w' kk ss; obtain ⟨u0, u1, u2, u3⟩ := HC.out _ (hr0.trans kk); go_simp; first | done | with_reducible rfl)
                      try simp only [Act.put, List.setIfInBounds_toArray, List.set_cons_zero, List.set_cons_succ]
                      refine' Reg.wpG_take (i := 36) (oi := { dst := some 158, op := Op.move (Operand.tmp 157), type := 4, pos := "law.go:184", after := #[{ on := 35, ground := Ground.data }, { on := 33, ground := Ground.chain }, { on := 33, ground := Ground.guard }], guard := some (33, false) }) (v := _) [37, 38, 39, 40, 41, 42, 43, 44, 45, 46, 47] [] rfl rfl (by kernel_rfl) (by kernel_rfl) (by kernel_rfl) (by kernel_rfl) (by kernel_rfl) (by kernel_rfl) (by kernel_rfl) (fun _ _ _ h => h) (Or.inl ⟨by rfl, Or.inl ?hyY141⟩) ?restY141
                      case hyY141 => (intro w' kk ss; obtain ⟨u0, u1, u2, u3⟩ := HC.out _ (hr0.trans kk); go_simp; first | done | with_reducible rfl)
                      try simp only [Act.put, List.setIfInBounds_toArray, List.set_cons_zero, List.set_cons_succ]
                      refine Reg.wpG_take (i := 37) (oi := { dst := some 159, op := Op.move (Operand.tmp 8), type := 22, pos := "law.go:184", after := #[{ on := 36, ground := Ground.guard }], guard := some (36, true) }) (v := undef) [39, 40, 41, 42, 43, 44, 45, 46, 47] [] rfl rfl (by kernel_rfl) (by kernel_rfl) (by kernel_rfl) (by kernel_rfl) (by kernel_rfl) (by kernel_rfl) (by kernel_rfl) (fun _ _ _ h => h) (Or.inr ⟨by rfl, rfl⟩) ?_
                      try simp only [Act.put, List.setIfInBounds_toArray, List.set_cons_zero, List.set_cons_succ]
                      refine Reg.wpG_take (i := 38) (oi := { dst := some 160, op := Op.move (Operand.tmp 11), type := 22, pos := "law.go:184", after := #[{ on := 36, ground := Ground.guard }], guard := some (36, true) }) (v := undef) [39, 40, 41, 42, 43, 44, 45, 46, 47] [] rfl rfl (by kernel_rfl) (by kernel_rfl) (by kernel_rfl) (by kernel_rfl) (by kernel_rfl) (by kernel_rfl) (by kernel_rfl) (fun _ _ _ h => h) (Or.inr ⟨by rfl, rfl⟩) ?_
                      try simp only [Act.put, List.setIfInBounds_toArray, List.set_cons_zero, List.set_cons_succ]
                      refine Reg.wpG_take (i := 39) (oi := { dst := some 161, op := Op.call { callee := Callee.value (Operand.func 21), args := #[Operand.tmp 159, Operand.tmp 160], argTypes := #[22, 22] }, type := 4, pos := "law.go:184", after := #[{ on := 37, ground := Ground.data }, { on := 38, ground := Ground.data }, { on := 36, ground := Ground.chain }, { on := 36, ground := Ground.guard }], guard := some (36, true) }) (v := undef) [40, 41, 42, 43, 44, 45, 46, 47] [] rfl rfl (by kernel_rfl) (by kernel_rfl) (by kernel_rfl) (by kernel_rfl) (by kernel_rfl) (by kernel_rfl) (by kernel_rfl) (fun _ _ _ h => h) (Or.inr ⟨by rfl, rfl⟩) ?_
                      try simp only [Act.put, List.setIfInBounds_toArray, List.set_cons_zero, List.set_cons_succ]
                      refine Reg.wpG_take (i := 40) (oi := { dst := some 162, op := Op.unOp UnOp.not 4 (Operand.tmp 161), type := 4, pos := "law.go:184", after := #[{ on := 39, ground := Ground.data }, { on := 36, ground := Ground.guard }], guard := some (36, true) }) (v := undef) [41, 42, 43, 44, 45, 46, 47] [] rfl rfl (by kernel_rfl) (by kernel_rfl) (by kernel_rfl) (by kernel_rfl) (by kernel_rfl) (by kernel_rfl) (by kernel_rfl) (fun _ _ _ h => h) (Or.inr ⟨by rfl, rfl⟩) ?_
                      try simp only [Act.put, List.setIfInBounds_toArray, List.set_cons_zero, List.set_cons_succ]
                      refine' Reg.wpG_take (i := 41) (oi := { dst := some 163, op := Op.pick (Operand.tmp 158) (Operand.tmp 162) (Operand.const (Value.bool false)), type := 4, pos := "law.go:184", after := #[{ on := 36, ground := Ground.data }, { on := 40, ground := Ground.data }, { on := 33, ground := Ground.guard }], guard := some (33, false) }) (v := _) [42, 43, 44, 45, 46, 47] [] rfl rfl (by kernel_rfl) (by kernel_rfl) (by kernel_rfl) (by kernel_rfl) (by kernel_rfl) (by kernel_rfl) (by kernel_rfl) (fun _ _ _ h => h) (Or.inl ⟨by rfl, Or.inl ?hyY142⟩) ?restY142
                      case hyY142 => (intro w' kk ss; obtain ⟨u0, u1, u2, u3⟩ := HC.out _ (hr0.trans kk); go_simp; first | done | with_reducible rfl)
                      try simp only [Act.put, List.setIfInBounds_toArray, List.set_cons_zero, List.set_cons_succ]
                      refine' Reg.wpG_take (i := 42) (oi := { dst := some 164, op := Op.pick (Operand.tmp 155) (Operand.const (Value.bool true)) (Operand.tmp 163), type := 4, pos := "law.go:184", after := #[{ on := 33, ground := Ground.data }, { on := 41, ground := Ground.data }], guard := none }) (v := _) [43, 44, 45, 46, 47] [] rfl rfl (by kernel_rfl) (by kernel_rfl) (by kernel_rfl) (by kernel_rfl) (by kernel_rfl) (by kernel_rfl) (by kernel_rfl) (fun _ _ _ h => h) (Or.inl ⟨by rfl, Or.inl ?hyY143⟩) ?restY143
                      case hyY143 => (intro w' kk ss; obtain ⟨u0, u1, u2, u3⟩ := HC.out _ (hr0.trans kk); go_simp; first | done | with_reducible rfl)
                      try simp only [Act.put, List.setIfInBounds_toArray, List.set_cons_zero, List.set_cons_succ]
                      refine' Reg.wpG_take (i := 43) (oi := { dst := some 165, op := Op.move (Operand.tmp 164), type := 4, pos := "law.go:184", after := #[{ on := 42, ground := Ground.data }, { on := 39, ground := Ground.chain }], guard := none }) (v := _) [44, 45, 46, 47] [] rfl rfl (by kernel_rfl) (by kernel_rfl) (by kernel_rfl) (by kernel_rfl) (by kernel_rfl) (by kernel_rfl) (by kernel_rfl) (fun _ _ _ h => h) (Or.inl ⟨by rfl, Or.inl ?hyY144⟩) ?restY144
                      case hyY144 => (intro w' kk ss; obtain ⟨u0, u1, u2, u3⟩ := HC.out _ (hr0.trans kk); go_simp; first | done | with_reducible rfl)
                      try simp only [Act.put, List.setIfInBounds_toArray, List.set_cons_zero, List.set_cons_succ]
                      refine' Reg.wpG_take (i := 44) (oi := { dst := some 166, op := Op.move (Operand.tmp 13), type := 44, pos := "law.go:184", after := #[{ on := 43, ground := Ground.guard }], guard := some (43, false) }) (v := _) [45, 46, 47] [] rfl rfl (by kernel_rfl) (by kernel_rfl) (by kernel_rfl) (by kernel_rfl) (by kernel_rfl) (by kernel_rfl) (by kernel_rfl) (fun _ _ _ h => h) (Or.inl ⟨by rfl, Or.inl ?hyY145⟩) ?restY145
                      case hyY145 => (intro w' kk ss; obtain ⟨u0, u1, u2, u3⟩ := HC.out _ (hr0.trans kk); go_simp; first | done | with_reducible rfl)
                      try simp only [Act.put, List.setIfInBounds_toArray, List.set_cons_zero, List.set_cons_succ]
                      refine' Reg.wpG_take (i := 45) (oi := { dst := some 167, op := Op.call { callee := Callee.builtin Builtin.len, args := #[Operand.tmp 166], argTypes := #[44] }, type := 3, pos := "law.go:184", after := #[{ on := 44, ground := Ground.data }, { on := 43, ground := Ground.guard }], guard := some (43, false) }) (v := _) [46, 47] [] rfl rfl (by kernel_rfl) (by kernel_rfl) (by kernel_rfl) (by kernel_rfl) (by kernel_rfl) (by kernel_rfl) (by kernel_rfl) (fun _ _ _ h => h) (Or.inl ⟨by rfl, Or.inl ?hyY146⟩) ?restY146
                      case hyY146 => (intro w' kk ss; obtain ⟨u0, u1, u2, u3⟩ := HC.out _ (hr0.trans kk); go_simp; first | done | with_reducible rfl)
                      try simp only [Act.put, List.setIfInBounds_toArray, List.set_cons_zero, List.set_cons_succ]
                      refine' Reg.wpG_take (i := 46) (oi := { dst := some 168, op := Op.binOp BinOp.gtr 3 (Operand.tmp 167) (Operand.const (Value.int IntKind.i64 1)) 3, type := 4, pos := "law.go:184", after := #[{ on := 45, ground := Ground.data }, { on := 43, ground := Ground.guard }], guard := some (43, false) }) (v := _) [47] [] rfl rfl (by kernel_rfl) (by kernel_rfl) (by kernel_rfl) (by kernel_rfl) (by kernel_rfl) (by kernel_rfl) (by kernel_rfl) (fun _ _ _ h => h) (Or.inl ⟨by rfl, Or.inl ?hyY147⟩) ?restY147
                      case hyY147 => (intro w' kk ss; obtain ⟨u0, u1, u2, u3⟩ := HC.out _ (hr0.trans kk); go_simp; first | done | with_reducible rfl)
                      try simp only [Act.put, List.setIfInBounds_toArray, List.set_cons_zero, List.set_cons_succ]
                      refine' Reg.wpG_take (i := 47) (oi := { dst := some 169, op := Op.pick (Operand.tmp 165) (Operand.const (Value.bool true)) (Operand.tmp 168), type := 4, pos := "law.go:184", after := #[{ on := 43, ground := Ground.data }, { on := 46, ground := Ground.data }], guard := none }) (v := _) [] [] rfl rfl (by kernel_rfl) (by kernel_rfl) (by kernel_rfl) (by kernel_rfl) (by kernel_rfl) (by kernel_rfl) (by kernel_rfl) (fun _ _ _ h => h) (Or.inl ⟨by rfl, Or.inl ?hyY148⟩) ?restY148
                      case hyY148 => (intro w' kk ss; obtain ⟨u0, u1, u2, u3⟩ := HC.out _ (hr0.trans kk); go_simp; first | done | with_reducible rfl)
                      try simp only [Act.put, List.setIfInBounds_toArray, List.set_cons_zero, List.set_cons_succ]
                      refine Reg.wpG_done (by kernel_rfl) (fun wq ke se => ?_) _
                      refine NoPanic.normal ?_
                      have hr0 := hr0.trans ke
                      clear ke
                      go_wp2
                      go_roundw
                      case rel => exact ⟨k + 1, G, _, _, by go_num, by omega, by omega, by omega, L9.out.since hr0⟩
                      case measure => simp [intOf]; omega
          · have hno : kk.tmod 4 = 0 → ¬ dd.length ≤ 300 := fun h1 h2 => hgo ⟨by rw [← Int.tmod_eq_emod_of_nonneg hb0]; exact h1, h2⟩
            clear hgo
            by_cases hg1 : kk.tmod 4 = 0
            · have hg2 : 300 < dd.length := by have := hno hg1; omega
              have hz5 : kk % 4 = 0 := by rw [← Int.tmod_eq_emod_of_nonneg hb0]; exact hg1
              clear hno
              go_wp2
              all_goals go_roundw
              all_goals first
                | (simp [intOf]; omega)
                | exact ⟨k + 1, G, N, s, by go_num, by omega, by omega, by omega, HL.out.since (since_alloc _ _)⟩
            · have hz4 : ((kk.tmod 4 : Int) != 0) = true := by rw [bne_iff_ne]; exact hg1
              have hz5 : ((kk % 4 : Int) != 0) = true := by rw [bne_iff_ne, ← Int.tmod_eq_emod_of_nonneg hb0]; exact hg1
              clear hno
              go_wp2
              all_goals go_roundw
              all_goals first
                | (simp [intOf]; omega)
                | exact ⟨k + 1, G, N, s, by go_num, by omega, by omega, by omega, HL.out.since (since_alloc _ _)⟩
        · by_cases hkn : k < len1
          all_goals
            have hk60' : k < len1 → ¬ k < 80 := fun h1 h2 => hc ⟨h1, h2⟩
            clear hc
            try have hk6 := hk60' hkn
            clear hk60'
            go_wp2
            go_ret
            exact ⟨rfl, K2.out.trans HL.out.k⟩

set_option maxRecDepth 100000 in
theorem lifted (os : Os) (started : os.Started) (H : Type) (enc : TypeId × Value → H) :
    ReturnsInHanded {} Try.checked os 5 .any (Rows.trailLessSpec.pre6 enc Try.prog Try.f5 Rows.trailLessRow.domain false) (Rows.trailLessSpec.post enc Try.prog Try.f5 false true false false) := by
  refine returnsInHanded_of_change (C := Try.checked) own started (by kernel_rfl) Try.func5
    (ChangeSpec.witness6 (enc := enc) (C := Try.checked) false ⟨#[], #[.slice none 0 0, .slice none 0 0], []⟩ 8 (by kernel_rfl) (by kernel_rfl) (by kernel_rfl) (by kernel_rfl)) ?_
  intro W base args ds gs before hval0 hW hcnd _
  have hval : ∀ (j : Nat) t v, Try.f5.params[j]? = some t → args[j]? = some v → Value.okWide Try.prog W .any base t v := hval0
  have hW' := hW
  obtain ⟨p, q, hA0, hV, rfl, hfz, hnd⟩ := hW
  have hA : DataW.TrodAll enc Try.prog W 0 (fun _ => true) true Try.f5.params.toList args.toList ds p := hA0
  rw [Try.params5] at hA hval
  obtain ⟨v0, vs0, d0, ds0, p0, q0, hargs, rfl, rfl, h0, r0⟩ := trodAll_cons hA
  obtain ⟨v1, vs1, d1, ds1, p1, q1, rfl, rfl, rfl, h1, r1⟩ := trodAll_cons r0
  obtain ⟨rfl, rfl, rfl⟩ := trodAll_nil r1
  obtain rfl : args = #[v0, v1] := by cases args; simp_all
  obtain ⟨rfl, rfl⟩ := trodVars_none hV
  obtain ⟨a0, len0, cap0, rfl⟩ := okWide_slice Try.underlying22 (hval 0 22 v0 rfl rfl)
  have k0 := h0
  have lt0 : ∀ x ∈ p0, x.block < W.heap.size := by obtain ⟨m, hm⟩ := k0; exact DataW.trod_lt m _ _ _ hm
  obtain ⟨z0, w0⟩ : ∃ zs, Go.Proofs.Ytnojfeffmbdpmaa.Tr.DomsIn W a0 len0 cap0 zs := by
    obtain ⟨fuel, hf⟩ := h0
    exact Go.Proofs.Ytnojfeffmbdpmaa.Tr.doms_in Try.underlying22 (by kernel_rfl) Try.underlying33 Try.underlying65 (by kernel_rfl) rfl rfl (by kernel_rfl) (by kernel_rfl) Try.underlying2 Try.underlying2 hf
  obtain ⟨a1, len1, cap1, rfl⟩ := okWide_slice Try.underlying23 (hval 1 23 v1 rfl rfl)
  have k1 := h1
  have lt1 : ∀ x ∈ p1, x.block < W.heap.size := by obtain ⟨m, hm⟩ := k1; exact DataW.trod_lt m _ _ _ hm
  obtain ⟨z1, w1⟩ : ∃ zs, Go.Proofs.Ytnojfeffmbdpmaa.Tr.ActsIn W a1 len1 cap1 zs := by
    obtain ⟨fuel, hf⟩ := h1
    exact Go.Proofs.Ytnojfeffmbdpmaa.Tr.acts_in Try.underlying23 Try.underlying35 (by kernel_rfl) ⟨rfl, rfl, rfl⟩ ⟨by kernel_rfl, by kernel_rfl, by kernel_rfl⟩ ⟨Try.underlying5, Try.underlying3, Try.underlying33⟩ Try.underlying65 (by kernel_rfl) rfl rfl (by kernel_rfl) (by kernel_rfl) Try.underlying2 Try.underlying2 hf
  clear hA0 hval0
  refine (walk a0 len0 cap0 z0 a1 len1 cap1 z1 W w0 w1).mono fun e W' ⟨he, bel⟩ => ?_
  subst he
  exact ⟨_, rfl, _, _, _, [], _, [], hW', trodAll_mk1 (shut_bool Try.underlying4 _), (trodAll_cons_mk (Below.trod laidOut (by kernel_rfl) (of_decide_eq_true (by kernel_rfl)) k0 bel lt0) (trodAll_cons_mk (Below.trod laidOut (by kernel_rfl) (of_decide_eq_true (by kernel_rfl)) k1 bel lt1) trodAll_mk0)), rfl, bel.frame _, fun h => by cases h⟩

theorem over : Rows.trailLessRow.holds Try.pinned (OpenSpec.ofChange Rows.trailLessSpec) :=
  OpenClaim.holds_of_wide 5 Try.f5 rfl rfl rfl rfl rfl rfl rfl ⟨rfl, rfl, rfl, rfl, rfl⟩ rfl rfl rfl rfl rfl (by kernel_rfl) Try.func5 (by kernel_rfl)
    (of_decide_eq_true (by kernel_rfl)) (by unfold Func.isWrapper; first | (rw [if_pos (by decide +kernel)]; kernel_rfl) | (rw [if_neg (by decide +kernel)]; exact ⟨rfl, rfl⟩))
    (fun os started H enc _ => lifted os started H enc)

/-- THE STATEMENT -/
theorem proved : Rows.TrailLessSaid := over
#print axioms proved
end Go.Proofs.Ytnojfeffmbdpmaa.trailLess
