/-
  For all constraints and domains: the law LinearTight returns true (each end of each domain that a sum which has to be at most a number leaves is in values for which it holds). No condition.
-/
import Derived.Test.YtoegbgkgenjplaaRows
import Derived.WalkKit
import Derived.ProofKit
import Derived.OpenShut
import Derived.ShutString
import Derived.ChangeOld
import Derived.Below
import Derived.Test.YtoegbgkgenjplaaLk
import Derived.Test.YtoegbgkgenjplaaLq
import Derived.Test.YtoegbgkgenjplaaQbs
import Derived.Test.YtoegbgkgenjplaaSi
import Derived.Test.YtoegbgkgenjplaaSt
namespace Go.Proofs.Ytoegbgkgenjplaa.linearTight
open Go.ChangeShapes Go.WideShapes Go.ChangeAt Go.RowKit
open Go.ChangeMaps (open_string shut_string)
open Go.Proofs.Ytoegbgkgenjplaa.Dig Go.Proofs.Ytoegbgkgenjplaa.Zs Go.Proofs.Ytoegbgkgenjplaa.Tr Go.Proofs.Ytoegbgkgenjplaa.Sn Go.Proofs.Ytoegbgkgenjplaa.Ln Go.Proofs.Ytoegbgkgenjplaa.Ev
open Go.Proofs.Ytoegbgkgenjplaa.Ti (Sl QR stR elR)
set_option linter.unusedVariables false

theorem own : ownKnob Try.prog.godebug = none := by kernel_rfl
theorem laidOut : laidOutB Try.prog = true := by kernel_rfl

/-- WHAT THE WALK IS TOLD OF A SLICE OF INTEGERS THAT CAME IN: it is nil; or it leads to a row of 'cap' cells, the numbers 'zs' (the first 'len' are its elements, the rest its spare room), each fitting its kind. -/
def IsRow (k : IntKind) (w : World) (a : Option Addr) (len cap : Nat) (zs : List Int) : Prop :=
  (a = none ∧ len = 0 ∧ cap = 0 ∧ zs = []) ∨
  ∃ x, a = some x ∧ len ≤ cap ∧ cap ≤ maxLen ∧ zs.length = cap ∧ (∀ i, i < zs.length → w.cell? (x.add i) = some (.int k (zs.getD i 0))) ∧ ∀ n ∈ zs, (Lit.int k n).wf = true

set_option maxRecDepth 100000 in
set_option maxHeartbeats 3000000 in
theorem walk (k0k : Int) (X0 : Option Addr) (n0 xc0 : Nat) (Y0 : Option Addr) (m0 yc0 : Nat) (e0 : Int) (z0 : Go.Proofs.Ytoegbgkgenjplaa.Sn.Cn) (a1 : Option Addr) (len1 cap1 : Nat) (z1 : Go.Proofs.Ytoegbgkgenjplaa.Tr.Ds) (w : World) (w0 : Go.Proofs.Ytoegbgkgenjplaa.Sn.ConIn w k0k X0 n0 xc0 Y0 m0 yc0 e0 z0) (w1 : Go.Proofs.Ytoegbgkgenjplaa.Tr.DomsIn w a1 len1 cap1 z1) :
    Calls Try.prog 7 #[.agg #[.int .i64 k0k, .slice X0 n0 xc0, .slice Y0 m0 yc0, .int .i64 e0], .slice a1 len1 cap1] w fun e w' => e = .returned (.bool true) ∧ Since w w' := by
  obtain ⟨hC, hBC, hcx, hca⟩ := w0
  obtain ⟨hl1, hD, hB1, hL1⟩ := w1
  subst hl1
  have AL := Lib.hid (fun W => Go.Proofs.Ytoegbgkgenjplaa.Ln.alive_any W)
  have FI := Lib.hid (fun W (k : Since w W) => fits12_any _ _ z0 z1 W (hC.since k) (hD.since stD k) hL1 (fun d hd => (hB1 d hd).2) hcx hca)
  have S0 := Lib.hid (since_alloc w (.cells #[.int .i64 k0k, .slice X0 n0 xc0, .slice Y0 m0 yc0, .int .i64 e0] 25))
  have B0 := Lib.hid (Bx.fresh w #[.int .i64 k0k, .slice X0 n0 xc0, .slice Y0 m0 yc0, .int .i64 e0] 25)
  obtain ⟨f, hf⟩ : ∃ f, fits12 z0 z1 = f := ⟨_, rfl⟩
  rw [hf] at FI
  cases f with
  | false =>
    clear hf hC hD hB1 hL1 hBC hcx hca
    obtain ⟨b0, b1, b2, b3⟩ := bx4 B0.out
    go_enter Try.func7, Try.ntmps7
    go_wp2_with (first | (go_at_call 23; (with_reducible refine (AL.out _).mono ?_); rintro e w1 ⟨rfl, k1⟩; have U1 := Lib.hid k1; have T1 := Lib.hid (S0.out.trans k1); obtain ⟨b0, b1, b2, b3⟩ := bx4 (B0.out.since k1); clear k1) | (go_at_call 24; (with_reducible refine (FI.out _ T1.out).mono ?_); rintro e w2 ⟨rfl, k2⟩; have U2 := Lib.hid (U1.out.trans k2); have T2 := Lib.hid (T1.out.trans k2); obtain ⟨b0, b1, b2, b3⟩ := bx4 (B0.out.since U2.out); clear k2))
    go_ret
    exact ⟨rfl, T2.out⟩
  | true =>
  obtain ⟨hsz, h100⟩ := fits12_sz hf
  have hbd : ∀ d ∈ z1, Bd d := fun d hd => (hB1 d hd).1
  have FW := Lib.hid (fun W (k : Since w W) => few2_any _ z1 W (hD.since stD k) (by omega) (fun d hd => ⟨hsz.1 d hd, hbd d hd⟩))
  obtain ⟨vx, vy, hh, hXX, -⟩ := id hC
  injection hh with hh
  simp at hh
  obtain ⟨hkq, hvx, -⟩ := hh
  rw [← hvx] at hXX
  have hkk : z0.k = k0k := hkq.symm
  clear hvx hkq hf
  by_cases hk2 : k0k = 2
  case neg =>
    clear hC hD hB1 hL1 hBC hcx hca hsz h100 hbd hkk hXX
    obtain ⟨b0, b1, b2, b3⟩ := bx4 B0.out
    go_enter Try.func7, Try.ntmps7
    go_wp2_with (first | (go_at_call 23; (with_reducible refine (AL.out _).mono ?_); rintro e w1 ⟨rfl, k1⟩; have U1 := Lib.hid k1; have T1 := Lib.hid (S0.out.trans k1); obtain ⟨b0, b1, b2, b3⟩ := bx4 (B0.out.since k1); clear k1) | (go_at_call 24; (with_reducible refine (FI.out _ T1.out).mono ?_); rintro e w2 ⟨rfl, k2⟩; have U2 := Lib.hid (U1.out.trans k2); have T2 := Lib.hid (T1.out.trans k2); obtain ⟨b0, b1, b2, b3⟩ := bx4 (B0.out.since U2.out); clear k2) | (go_at_call 25; (with_reducible refine (FW.out _ T2.out).mono ?_); rintro e w3 (⟨rfl, k3⟩ | ⟨rfl, hp3, k3⟩) <;> (have U3 := Lib.hid (U2.out.trans k3); have T3 := Lib.hid (T2.out.trans k3); obtain ⟨b0, b1, b2, b3⟩ := bx4 (B0.out.since U3.out); clear k3)))
    all_goals (go_ret; exact ⟨rfl, T3.out⟩)
  subst hk2
  have RF := Lib.hid (fun W (k : Since w W) => rfit_any _ _ z0 z1 W (hC.since k) (hD.since stD k) hsz hbd)
  obtain ⟨m, hm⟩ : ∃ m, modOk ⟨z1, [z0], 0, 0⟩ = m := ⟨_, rfl⟩
  rw [hm] at RF
  cases m with
  | false =>
    clear hC hD hB1 hL1 hBC hcx hca hsz h100 hbd hm hkk hXX
    obtain ⟨b0, b1, b2, b3⟩ := bx4 B0.out
    go_enter Try.func7, Try.ntmps7
    go_wp2_with (first | (go_at_call 23; (with_reducible refine (AL.out _).mono ?_); rintro e w1 ⟨rfl, k1⟩; have U1 := Lib.hid k1; have T1 := Lib.hid (S0.out.trans k1); obtain ⟨b0, b1, b2, b3⟩ := bx4 (B0.out.since k1); clear k1) | (go_at_call 24; (with_reducible refine (FI.out _ T1.out).mono ?_); rintro e w2 ⟨rfl, k2⟩; have U2 := Lib.hid (U1.out.trans k2); have T2 := Lib.hid (T1.out.trans k2); obtain ⟨b0, b1, b2, b3⟩ := bx4 (B0.out.since U2.out); clear k2) | (go_at_call 25; (with_reducible refine (FW.out _ T2.out).mono ?_); rintro e w3 (⟨rfl, k3⟩ | ⟨rfl, hp3, k3⟩) <;> (have U3 := Lib.hid (U2.out.trans k3); have T3 := Lib.hid (T2.out.trans k3); obtain ⟨b0, b1, b2, b3⟩ := bx4 (B0.out.since U3.out); clear k3)) | (go_at_call 26; (with_reducible refine (RF.out _ T3.out).mono ?_); rintro e w4 ⟨rfl, k4, -⟩; have U4 := Lib.hid (U3.out.trans k4); have T4 := Lib.hid (T3.out.trans k4); obtain ⟨b0, b1, b2, b3⟩ := bx4 (B0.out.since U4.out); clear k4))
    all_goals first | (go_ret; exact ⟨rfl, T4.out⟩) | (go_ret; exact ⟨rfl, T3.out⟩)
  | true =>
  obtain ⟨m1, m2, m3⟩ := mod_parts hm
  have hx := (lin_parts m3 (by omega)).x
  have NA := Lib.hid (fun W (k : Since w W) => narrow_any _ _ z0 z1 W (hC.since k) (hD.since stD k) hsz)
  rw [narO_is hm (by omega) rfl] at NA
  have TI := Lib.hid (fun E (hE : narL z0.k z0.c z0.a z0.x z1 = some E) (hnd : z0.x.Nodup) (y : Nat) (e : Int) (hy : y < E.length) (he : mem (domAt E (y : Int)) e) => tight_any hm hkk hnd hE hy he)
  have G1 := Lib.hid (fun E (he : narL z0.k z0.c z0.a z0.x z1 = some E) => nar_good m1 hx he)
  have PR := Lib.hid (fun E (he : narL z0.k z0.c z0.a z0.x z1 = some E) => show prodF E ≤ prodF z1 by
    unfold narL at he
    rw [if_neg (by omega), if_pos hkk] at he
    obtain ⟨h1, h2⟩ := tms_in (a := z0.a) m1.rd hx
    exact prod_am m1 h1 h2 he)
  have CLT := Lib.hid (fun W (k : Since w W) => show Sl 4 QC (W.alloc (.cells #[.int .i64 2, .slice X0 n0 xc0, .slice Y0 m0 yc0, .int .i64 e0] 25)) (.slice (some ⟨W.heap.size, 0, none⟩) 1 1) [z0] from by
    obtain ⟨vx', vy', hh', h1', h2'⟩ := hC.since k
    injection hh' with hh'
    simp at hh'
    obtain ⟨hq1, hq2, hq3, hq4⟩ := hh'
    have := con_lit W z0 vx' vy' h1' h2'
    rw [← hq1, ← hq2, ← hq3, ← hq4] at this
    exact this)
  have EV0 := Lib.hid (fun (E : Ln.Ds) (hE : Gd E) (hl : E.length ≤ 1000) W vo vc (hO : Sl 1 QD W vo E) (hc : Sl 4 QC W vc [z0]) (hp : prodF E ≤ 400) => every_any vo vc z0 E W hO hc hl hE hp ⟨fun d hd => right_len (hE d hd).1, hsz.2⟩ (by omega))
  have HX := Lib.hid hXX
  have HNX := Lib.hid hXX.at_.1
  have hn32 : n0 ≤ 1000 := by have := (lin_parts m3 (by omega)).x32; have := hXX.at_.1; omega
  have h1000 : z1.length ≤ 1000 := by omega
  generalize narL z0.k z0.c z0.a z0.x z1 = R at *
  unfold RetNr at NA
  clear hC hD hB1 hL1 hBC hcx hca hsz h100 hbd hm hkk m1 m2 m3 hx hXX
  obtain ⟨b0, b1, b2, b3⟩ := bx4 B0.out
  go_enter Try.func7, Try.ntmps7
  go_wp2_with (first | (go_at_call 23; (with_reducible refine (AL.out _).mono ?_); rintro e w1 ⟨rfl, k1⟩; have U1 := Lib.hid k1; have T1 := Lib.hid (S0.out.trans k1); obtain ⟨b0, b1, b2, b3⟩ := bx4 (B0.out.since k1); clear k1) | (go_at_call 24; (with_reducible refine (FI.out _ T1.out).mono ?_); rintro e w2 ⟨rfl, k2⟩; have U2 := Lib.hid (U1.out.trans k2); have T2 := Lib.hid (T1.out.trans k2); obtain ⟨b0, b1, b2, b3⟩ := bx4 (B0.out.since U2.out); clear k2) | (go_at_call 25; (with_reducible refine (FW.out _ T2.out).mono ?_); rintro e w3 (⟨rfl, k3⟩ | ⟨rfl, hp3, k3⟩) <;> (have U3 := Lib.hid (U2.out.trans k3); have T3 := Lib.hid (T2.out.trans k3); obtain ⟨b0, b1, b2, b3⟩ := bx4 (B0.out.since U3.out); clear k3)) | (go_at_call 26; (with_reducible refine (RF.out _ T3.out).mono ?_); rintro e w4 ⟨rfl, k4, -⟩; have U4 := Lib.hid (U3.out.trans k4); have T4 := Lib.hid (T3.out.trans k4); obtain ⟨b0, b1, b2, b3⟩ := bx4 (B0.out.since U4.out); clear k4))
  all_goals try (go_ret; exact ⟨rfl, T3.out⟩)
  go_loopw [40] (fun i wr => ∃ (p : Nat), i = .int .i64 (p : Int) ∧ p ≤ n0 ∧ Hid (∀ i k, k < i → i < p → z0.x.getD i 0 ≠ z0.x.getD k 0) ∧ Hid (Since w4 wr)) (fun i _ => n0 - (intOf i).toNat)
  case atStart => exact ⟨0, rfl, Nat.zero_le _, Lib.hid (fun i k _ h => absurd h (by omega)), Lib.hid (Since.refl _)⟩
  case round =>
    obtain ⟨p, rfl, hp, HP, HW⟩ := hrel
    have HWP := Lib.hid HW.out
    by_cases hpn : p < n0
    · obtain ⟨b0, b1, b2, b3⟩ := bx4 (B0.out.since (U4.out.trans HW.out))
      have hpx : p < z0.x.length := by have := HNX.out; omega
      have HPX := Lib.hid hpx
      clear hpx
      go_wp2
      go_loopw [44] (fun i wr2 => ∃ (q : Nat), i = .int .i64 (q : Int) ∧ q ≤ p ∧ Hid (∀ k, k < q → z0.x.getD p 0 ≠ z0.x.getD k 0) ∧ Hid (Since w4 wr2)) (fun i _ => p - (intOf i).toNat)
      case atStart => exact ⟨0, rfl, Nat.zero_le _, Lib.hid (fun k h => absurd h (by omega)), HWP⟩
      case round =>
        obtain ⟨q, rfl, hq, HQ, HV⟩ := hrel
        have HB := Lib.hid (B0.out.since (U4.out.trans HV.out))
        have TV := Lib.hid (T4.out.trans HV.out)
        by_cases hqp : q < p
        · have hpx := HPX.out
          have hqx : q < z0.x.length := by omega
          have hqn : q < n0 := by omega
          obtain ⟨gx, ox, hX0, ep⟩ := elI (HX.out.since stI TV.out) hpx
          obtain ⟨gx2, ox2, hX1, eq⟩ := elI (HX.out.since stI TV.out) hqx
          rw [hX0] at hX1
          injection hX1 with hX1
          injection hX1 with hX1 hX2 _
          subst hX1 hX2
          have GP := Lib.hid (show z0.x.getD p 0 = z0.x[p] by simp [List.getD, hpx])
          have GQ := Lib.hid (show z0.x.getD q 0 = z0.x[q] by simp [List.getD, hqx])
          generalize z0.x[p] = xp at *
          generalize z0.x[q] = xq at *
          have CP := Lib.hid (fun W (k : Since wr W) => (k.cell _ (World.block_lt_of_cell? _ _ ep)).trans ep)
          have CQ := Lib.hid (fun W (k : Since wr W) => (k.cell _ (World.block_lt_of_cell? _ _ eq)).trans eq)
          clear ep eq hpx hqx
          subst hX0
          by_cases e : xp = xq
          · subst e
            go_wp2
            have hr0 : Since wr wr.drew := Since.drew (Since.refl wr)
            refine wp_region_noPanic ?_
            refine Reg.wp_region_G (S := fun _ => True) (fun j => [].contains j) (by kernel_rfl) trivial ?_
            refine' Reg.wpG_take (i := 0) (oi := { dst := some 47, op := Op.fieldAddr 25 (Operand.tmp 2) 1, type := 0, pos := "law.go:157", after := #[], guard := none }) (v := _) [1, 3, 4, 10] [] rfl rfl (by kernel_rfl) (by kernel_rfl) (by kernel_rfl) (by kernel_rfl) (by kernel_rfl) (by kernel_rfl) (by kernel_rfl) (fun _ _ _ h => h) (Or.inl ⟨by rfl, Or.inl ?_⟩) ?_
            rotate_left
            · (intro w' kk ss; obtain ⟨x0, x1, x2, x3⟩ := bx4 (HB.out.since (hr0.trans kk)); have u0 := CP.out _ (hr0.trans kk); have u1 := CQ.out _ (hr0.trans kk); go_simp; first | done | with_reducible rfl)
            try simp only [Act.put, List.setIfInBounds_toArray, List.set_cons_zero, List.set_cons_succ]
            refine' Reg.wpG_take (i := 1) (oi := { dst := some 48, op := Op.load 22 (Operand.tmp 47), type := 22, pos := "law.go:157", after := #[{ on := 0, ground := Ground.data }], guard := none }) (v := _) [3, 4, 10] [] rfl rfl (by kernel_rfl) (by kernel_rfl) (by kernel_rfl) (by kernel_rfl) (by kernel_rfl) (by kernel_rfl) (by kernel_rfl) (fun _ _ _ h => h) (Or.inl ⟨by rfl, Or.inl ?_⟩) ?_
            rotate_left
            · (intro w' kk ss; obtain ⟨x0, x1, x2, x3⟩ := bx4 (HB.out.since (hr0.trans kk)); have u0 := CP.out _ (hr0.trans kk); have u1 := CQ.out _ (hr0.trans kk); go_simp; first | done | with_reducible rfl)
            try simp only [Act.put, List.setIfInBounds_toArray, List.set_cons_zero, List.set_cons_succ]
            refine' Reg.wpG_take (i := 2) (oi := { dst := some 49, op := Op.move (Operand.tmp 5), type := 3, pos := "law.go:157", after := #[], guard := none }) (v := _) [3, 4, 10] [] rfl rfl (by kernel_rfl) (by kernel_rfl) (by kernel_rfl) (by kernel_rfl) (by kernel_rfl) (by kernel_rfl) (by kernel_rfl) (fun _ _ _ h => h) (Or.inl ⟨by rfl, Or.inl ?_⟩) ?_
            rotate_left
            · (intro w' kk ss; obtain ⟨x0, x1, x2, x3⟩ := bx4 (HB.out.since (hr0.trans kk)); have u0 := CP.out _ (hr0.trans kk); have u1 := CQ.out _ (hr0.trans kk); go_simp; first | done | with_reducible rfl)
            try simp only [Act.put, List.setIfInBounds_toArray, List.set_cons_zero, List.set_cons_succ]
            refine' Reg.wpG_take (i := 3) (oi := { dst := some 50, op := Op.indexAddr 22 (Operand.tmp 48) (Operand.tmp 49), type := 0, pos := "law.go:157", after := #[{ on := 1, ground := Ground.data }, { on := 2, ground := Ground.data }], guard := none }) (v := _) [4, 10] [] rfl rfl (by kernel_rfl) (by kernel_rfl) (by kernel_rfl) (by kernel_rfl) (by kernel_rfl) (by kernel_rfl) (by kernel_rfl) (fun _ _ _ h => h) (Or.inl ⟨by rfl, Or.inl ?_⟩) ?_
            rotate_left
            · (intro w' kk ss; obtain ⟨x0, x1, x2, x3⟩ := bx4 (HB.out.since (hr0.trans kk)); have u0 := CP.out _ (hr0.trans kk); have u1 := CQ.out _ (hr0.trans kk); go_simp; first | done | with_reducible rfl)
            try simp only [Act.put, List.setIfInBounds_toArray, List.set_cons_zero, List.set_cons_succ]
            refine' Reg.wpG_take (i := 4) (oi := { dst := some 51, op := Op.load 3 (Operand.tmp 50), type := 3, pos := "law.go:157", after := #[{ on := 3, ground := Ground.data }], guard := none }) (v := _) [10] [] rfl rfl (by kernel_rfl) (by kernel_rfl) (by kernel_rfl) (by kernel_rfl) (by kernel_rfl) (by kernel_rfl) (by kernel_rfl) (fun _ _ _ h => h) (Or.inl ⟨by rfl, Or.inl ?_⟩) ?_
            rotate_left
            · (intro w' kk ss; obtain ⟨x0, x1, x2, x3⟩ := bx4 (HB.out.since (hr0.trans kk)); have u0 := CP.out _ (hr0.trans kk); have u1 := CQ.out _ (hr0.trans kk); go_simp; first | done | with_reducible rfl)
            try simp only [Act.put, List.setIfInBounds_toArray, List.set_cons_zero, List.set_cons_succ]
            refine' Reg.wpG_take (i := 5) (oi := { dst := some 52, op := Op.fieldAddr 25 (Operand.tmp 2) 1, type := 0, pos := "law.go:157", after := #[], guard := none }) (v := _) [6, 8, 9, 10] [] rfl rfl (by kernel_rfl) (by kernel_rfl) (by kernel_rfl) (by kernel_rfl) (by kernel_rfl) (by kernel_rfl) (by kernel_rfl) (fun _ _ _ h => h) (Or.inl ⟨by rfl, Or.inl ?_⟩) ?_
            rotate_left
            · (intro w' kk ss; obtain ⟨x0, x1, x2, x3⟩ := bx4 (HB.out.since (hr0.trans kk)); have u0 := CP.out _ (hr0.trans kk); have u1 := CQ.out _ (hr0.trans kk); go_simp; first | done | with_reducible rfl)
            try simp only [Act.put, List.setIfInBounds_toArray, List.set_cons_zero, List.set_cons_succ]
            refine' Reg.wpG_take (i := 6) (oi := { dst := some 53, op := Op.load 22 (Operand.tmp 52), type := 22, pos := "law.go:157", after := #[{ on := 5, ground := Ground.data }], guard := none }) (v := _) [8, 9, 10] [] rfl rfl (by kernel_rfl) (by kernel_rfl) (by kernel_rfl) (by kernel_rfl) (by kernel_rfl) (by kernel_rfl) (by kernel_rfl) (fun _ _ _ h => h) (Or.inl ⟨by rfl, Or.inl ?_⟩) ?_
            rotate_left
            · (intro w' kk ss; obtain ⟨x0, x1, x2, x3⟩ := bx4 (HB.out.since (hr0.trans kk)); have u0 := CP.out _ (hr0.trans kk); have u1 := CQ.out _ (hr0.trans kk); go_simp; first | done | with_reducible rfl)
            try simp only [Act.put, List.setIfInBounds_toArray, List.set_cons_zero, List.set_cons_succ]
            refine' Reg.wpG_take (i := 7) (oi := { dst := some 54, op := Op.move (Operand.tmp 6), type := 3, pos := "law.go:157", after := #[], guard := none }) (v := _) [8, 9, 10] [] rfl rfl (by kernel_rfl) (by kernel_rfl) (by kernel_rfl) (by kernel_rfl) (by kernel_rfl) (by kernel_rfl) (by kernel_rfl) (fun _ _ _ h => h) (Or.inl ⟨by rfl, Or.inl ?_⟩) ?_
            rotate_left
            · (intro w' kk ss; obtain ⟨x0, x1, x2, x3⟩ := bx4 (HB.out.since (hr0.trans kk)); have u0 := CP.out _ (hr0.trans kk); have u1 := CQ.out _ (hr0.trans kk); go_simp; first | done | with_reducible rfl)
            try simp only [Act.put, List.setIfInBounds_toArray, List.set_cons_zero, List.set_cons_succ]
            refine' Reg.wpG_take (i := 8) (oi := { dst := some 55, op := Op.indexAddr 22 (Operand.tmp 53) (Operand.tmp 54), type := 0, pos := "law.go:157", after := #[{ on := 6, ground := Ground.data }, { on := 7, ground := Ground.data }], guard := none }) (v := _) [9, 10] [] rfl rfl (by kernel_rfl) (by kernel_rfl) (by kernel_rfl) (by kernel_rfl) (by kernel_rfl) (by kernel_rfl) (by kernel_rfl) (fun _ _ _ h => h) (Or.inl ⟨by rfl, Or.inl ?_⟩) ?_
            rotate_left
            · (intro w' kk ss; obtain ⟨x0, x1, x2, x3⟩ := bx4 (HB.out.since (hr0.trans kk)); have u0 := CP.out _ (hr0.trans kk); have u1 := CQ.out _ (hr0.trans kk); go_simp; first | done | with_reducible rfl)
            try simp only [Act.put, List.setIfInBounds_toArray, List.set_cons_zero, List.set_cons_succ]
            refine' Reg.wpG_take (i := 9) (oi := { dst := some 56, op := Op.load 3 (Operand.tmp 55), type := 3, pos := "law.go:157", after := #[{ on := 8, ground := Ground.data }], guard := none }) (v := _) [10] [] rfl rfl (by kernel_rfl) (by kernel_rfl) (by kernel_rfl) (by kernel_rfl) (by kernel_rfl) (by kernel_rfl) (by kernel_rfl) (fun _ _ _ h => h) (Or.inl ⟨by rfl, Or.inl ?_⟩) ?_
            rotate_left
            · (intro w' kk ss; obtain ⟨x0, x1, x2, x3⟩ := bx4 (HB.out.since (hr0.trans kk)); have u0 := CP.out _ (hr0.trans kk); have u1 := CQ.out _ (hr0.trans kk); go_simp; first | done | with_reducible rfl)
            try simp only [Act.put, List.setIfInBounds_toArray, List.set_cons_zero, List.set_cons_succ]
            refine' Reg.wpG_take (i := 10) (oi := { dst := some 57, op := Op.binOp BinOp.eql 3 (Operand.tmp 51) (Operand.tmp 56) 3, type := 4, pos := "law.go:157", after := #[{ on := 4, ground := Ground.data }, { on := 9, ground := Ground.data }], guard := none }) (v := _) [] [] rfl rfl (by kernel_rfl) (by kernel_rfl) (by kernel_rfl) (by kernel_rfl) (by kernel_rfl) (by kernel_rfl) (by kernel_rfl) (fun _ _ _ h => h) (Or.inl ⟨by rfl, Or.inl ?_⟩) ?_
            rotate_left
            · (intro w' kk ss; obtain ⟨x0, x1, x2, x3⟩ := bx4 (HB.out.since (hr0.trans kk)); have u0 := CP.out _ (hr0.trans kk); have u1 := CQ.out _ (hr0.trans kk); go_simp; first | done | with_reducible rfl)
            try simp only [Act.put, List.setIfInBounds_toArray, List.set_cons_zero, List.set_cons_succ]
            refine Reg.wpG_done (by kernel_rfl) (fun wq ke se => ?_) _
            refine NoPanic.normal ?_
            have hr0 := hr0.trans ke
            clear ke
            go_wp2
            go_ret
            exact ⟨rfl, TV.out.trans hr0⟩
          · go_wp2
            have hr0 : Since wr wr.drew := Since.drew (Since.refl wr)
            refine wp_region_noPanic ?_
            refine Reg.wp_region_G (S := fun _ => True) (fun j => [].contains j) (by kernel_rfl) trivial ?_
            refine' Reg.wpG_take (i := 0) (oi := { dst := some 47, op := Op.fieldAddr 25 (Operand.tmp 2) 1, type := 0, pos := "law.go:157", after := #[], guard := none }) (v := _) [1, 3, 4, 10] [] rfl rfl (by kernel_rfl) (by kernel_rfl) (by kernel_rfl) (by kernel_rfl) (by kernel_rfl) (by kernel_rfl) (by kernel_rfl) (fun _ _ _ h => h) (Or.inl ⟨by rfl, Or.inl ?_⟩) ?_
            rotate_left
            · (intro w' kk ss; obtain ⟨x0, x1, x2, x3⟩ := bx4 (HB.out.since (hr0.trans kk)); have u0 := CP.out _ (hr0.trans kk); have u1 := CQ.out _ (hr0.trans kk); go_simp; first | done | with_reducible rfl)
            try simp only [Act.put, List.setIfInBounds_toArray, List.set_cons_zero, List.set_cons_succ]
            refine' Reg.wpG_take (i := 1) (oi := { dst := some 48, op := Op.load 22 (Operand.tmp 47), type := 22, pos := "law.go:157", after := #[{ on := 0, ground := Ground.data }], guard := none }) (v := _) [3, 4, 10] [] rfl rfl (by kernel_rfl) (by kernel_rfl) (by kernel_rfl) (by kernel_rfl) (by kernel_rfl) (by kernel_rfl) (by kernel_rfl) (fun _ _ _ h => h) (Or.inl ⟨by rfl, Or.inl ?_⟩) ?_
            rotate_left
            · (intro w' kk ss; obtain ⟨x0, x1, x2, x3⟩ := bx4 (HB.out.since (hr0.trans kk)); have u0 := CP.out _ (hr0.trans kk); have u1 := CQ.out _ (hr0.trans kk); go_simp; first | done | with_reducible rfl)
            try simp only [Act.put, List.setIfInBounds_toArray, List.set_cons_zero, List.set_cons_succ]
            refine' Reg.wpG_take (i := 2) (oi := { dst := some 49, op := Op.move (Operand.tmp 5), type := 3, pos := "law.go:157", after := #[], guard := none }) (v := _) [3, 4, 10] [] rfl rfl (by kernel_rfl) (by kernel_rfl) (by kernel_rfl) (by kernel_rfl) (by kernel_rfl) (by kernel_rfl) (by kernel_rfl) (fun _ _ _ h => h) (Or.inl ⟨by rfl, Or.inl ?_⟩) ?_
            rotate_left
            · (intro w' kk ss; obtain ⟨x0, x1, x2, x3⟩ := bx4 (HB.out.since (hr0.trans kk)); have u0 := CP.out _ (hr0.trans kk); have u1 := CQ.out _ (hr0.trans kk); go_simp; first | done | with_reducible rfl)
            try simp only [Act.put, List.setIfInBounds_toArray, List.set_cons_zero, List.set_cons_succ]
            refine' Reg.wpG_take (i := 3) (oi := { dst := some 50, op := Op.indexAddr 22 (Operand.tmp 48) (Operand.tmp 49), type := 0, pos := "law.go:157", after := #[{ on := 1, ground := Ground.data }, { on := 2, ground := Ground.data }], guard := none }) (v := _) [4, 10] [] rfl rfl (by kernel_rfl) (by kernel_rfl) (by kernel_rfl) (by kernel_rfl) (by kernel_rfl) (by kernel_rfl) (by kernel_rfl) (fun _ _ _ h => h) (Or.inl ⟨by rfl, Or.inl ?_⟩) ?_
            rotate_left
            · (intro w' kk ss; obtain ⟨x0, x1, x2, x3⟩ := bx4 (HB.out.since (hr0.trans kk)); have u0 := CP.out _ (hr0.trans kk); have u1 := CQ.out _ (hr0.trans kk); go_simp; first | done | with_reducible rfl)
            try simp only [Act.put, List.setIfInBounds_toArray, List.set_cons_zero, List.set_cons_succ]
            refine' Reg.wpG_take (i := 4) (oi := { dst := some 51, op := Op.load 3 (Operand.tmp 50), type := 3, pos := "law.go:157", after := #[{ on := 3, ground := Ground.data }], guard := none }) (v := _) [10] [] rfl rfl (by kernel_rfl) (by kernel_rfl) (by kernel_rfl) (by kernel_rfl) (by kernel_rfl) (by kernel_rfl) (by kernel_rfl) (fun _ _ _ h => h) (Or.inl ⟨by rfl, Or.inl ?_⟩) ?_
            rotate_left
            · (intro w' kk ss; obtain ⟨x0, x1, x2, x3⟩ := bx4 (HB.out.since (hr0.trans kk)); have u0 := CP.out _ (hr0.trans kk); have u1 := CQ.out _ (hr0.trans kk); go_simp; first | done | with_reducible rfl)
            try simp only [Act.put, List.setIfInBounds_toArray, List.set_cons_zero, List.set_cons_succ]
            refine' Reg.wpG_take (i := 5) (oi := { dst := some 52, op := Op.fieldAddr 25 (Operand.tmp 2) 1, type := 0, pos := "law.go:157", after := #[], guard := none }) (v := _) [6, 8, 9, 10] [] rfl rfl (by kernel_rfl) (by kernel_rfl) (by kernel_rfl) (by kernel_rfl) (by kernel_rfl) (by kernel_rfl) (by kernel_rfl) (fun _ _ _ h => h) (Or.inl ⟨by rfl, Or.inl ?_⟩) ?_
            rotate_left
            · (intro w' kk ss; obtain ⟨x0, x1, x2, x3⟩ := bx4 (HB.out.since (hr0.trans kk)); have u0 := CP.out _ (hr0.trans kk); have u1 := CQ.out _ (hr0.trans kk); go_simp; first | done | with_reducible rfl)
            try simp only [Act.put, List.setIfInBounds_toArray, List.set_cons_zero, List.set_cons_succ]
            refine' Reg.wpG_take (i := 6) (oi := { dst := some 53, op := Op.load 22 (Operand.tmp 52), type := 22, pos := "law.go:157", after := #[{ on := 5, ground := Ground.data }], guard := none }) (v := _) [8, 9, 10] [] rfl rfl (by kernel_rfl) (by kernel_rfl) (by kernel_rfl) (by kernel_rfl) (by kernel_rfl) (by kernel_rfl) (by kernel_rfl) (fun _ _ _ h => h) (Or.inl ⟨by rfl, Or.inl ?_⟩) ?_
            rotate_left
            · (intro w' kk ss; obtain ⟨x0, x1, x2, x3⟩ := bx4 (HB.out.since (hr0.trans kk)); have u0 := CP.out _ (hr0.trans kk); have u1 := CQ.out _ (hr0.trans kk); go_simp; first | done | with_reducible rfl)
            try simp only [Act.put, List.setIfInBounds_toArray, List.set_cons_zero, List.set_cons_succ]
            refine' Reg.wpG_take (i := 7) (oi := { dst := some 54, op := Op.move (Operand.tmp 6), type := 3, pos := "law.go:157", after := #[], guard := none }) (v := _) [8, 9, 10] [] rfl rfl (by kernel_rfl) (by kernel_rfl) (by kernel_rfl) (by kernel_rfl) (by kernel_rfl) (by kernel_rfl) (by kernel_rfl) (fun _ _ _ h => h) (Or.inl ⟨by rfl, Or.inl ?_⟩) ?_
            rotate_left
            · (intro w' kk ss; obtain ⟨x0, x1, x2, x3⟩ := bx4 (HB.out.since (hr0.trans kk)); have u0 := CP.out _ (hr0.trans kk); have u1 := CQ.out _ (hr0.trans kk); go_simp; first | done | with_reducible rfl)
            try simp only [Act.put, List.setIfInBounds_toArray, List.set_cons_zero, List.set_cons_succ]
            refine' Reg.wpG_take (i := 8) (oi := { dst := some 55, op := Op.indexAddr 22 (Operand.tmp 53) (Operand.tmp 54), type := 0, pos := "law.go:157", after := #[{ on := 6, ground := Ground.data }, { on := 7, ground := Ground.data }], guard := none }) (v := _) [9, 10] [] rfl rfl (by kernel_rfl) (by kernel_rfl) (by kernel_rfl) (by kernel_rfl) (by kernel_rfl) (by kernel_rfl) (by kernel_rfl) (fun _ _ _ h => h) (Or.inl ⟨by rfl, Or.inl ?_⟩) ?_
            rotate_left
            · (intro w' kk ss; obtain ⟨x0, x1, x2, x3⟩ := bx4 (HB.out.since (hr0.trans kk)); have u0 := CP.out _ (hr0.trans kk); have u1 := CQ.out _ (hr0.trans kk); go_simp; first | done | with_reducible rfl)
            try simp only [Act.put, List.setIfInBounds_toArray, List.set_cons_zero, List.set_cons_succ]
            refine' Reg.wpG_take (i := 9) (oi := { dst := some 56, op := Op.load 3 (Operand.tmp 55), type := 3, pos := "law.go:157", after := #[{ on := 8, ground := Ground.data }], guard := none }) (v := _) [10] [] rfl rfl (by kernel_rfl) (by kernel_rfl) (by kernel_rfl) (by kernel_rfl) (by kernel_rfl) (by kernel_rfl) (by kernel_rfl) (fun _ _ _ h => h) (Or.inl ⟨by rfl, Or.inl ?_⟩) ?_
            rotate_left
            · (intro w' kk ss; obtain ⟨x0, x1, x2, x3⟩ := bx4 (HB.out.since (hr0.trans kk)); have u0 := CP.out _ (hr0.trans kk); have u1 := CQ.out _ (hr0.trans kk); go_simp; first | done | with_reducible rfl)
            try simp only [Act.put, List.setIfInBounds_toArray, List.set_cons_zero, List.set_cons_succ]
            refine' Reg.wpG_take (i := 10) (oi := { dst := some 57, op := Op.binOp BinOp.eql 3 (Operand.tmp 51) (Operand.tmp 56) 3, type := 4, pos := "law.go:157", after := #[{ on := 4, ground := Ground.data }, { on := 9, ground := Ground.data }], guard := none }) (v := _) [] [] rfl rfl (by kernel_rfl) (by kernel_rfl) (by kernel_rfl) (by kernel_rfl) (by kernel_rfl) (by kernel_rfl) (by kernel_rfl) (fun _ _ _ h => h) (Or.inl ⟨by rfl, Or.inl ?_⟩) ?_
            rotate_left
            · (intro w' kk ss; obtain ⟨x0, x1, x2, x3⟩ := bx4 (HB.out.since (hr0.trans kk)); have u0 := CP.out _ (hr0.trans kk); have u1 := CQ.out _ (hr0.trans kk); go_simp; first | done | with_reducible rfl)
            try simp only [Act.put, List.setIfInBounds_toArray, List.set_cons_zero, List.set_cons_succ]
            refine Reg.wpG_done (by kernel_rfl) (fun wq ke se => ?_) _
            refine NoPanic.normal ?_
            have hr0 := hr0.trans ke
            clear ke
            have HR := Lib.hid hr0
            clear hr0
            go_wp2
            go_roundw
            case rel =>
              refine ⟨q + 1, by go_num, by omega, Lib.hid fun k hk => ?_, Lib.hid (HV.out.trans HR.out)⟩
              by_cases ek : k = q
              · subst ek; rw [GP.out, GQ.out]; exact e
              · exact HQ.out k (by omega)
            case measure => simp [intOf]; omega
        · obtain rfl : q = p := by omega
          go_wp2
          go_roundw
          case rel =>
            refine ⟨q + 1, by go_num, by omega, Lib.hid fun i k h1 h2 => ?_, HV⟩
            by_cases ei : i = q
            · subst ei; exact HQ.out k h1
            · exact HP.out i k h1 (by omega)
          case measure => simp [intOf]; omega
    · obtain rfl : p = n0 := by omega
      have ND := Lib.hid (show z0.x.Nodup by
        rw [List.Nodup, List.pairwise_iff_getElem]
        intro i j hi hj hij e
        refine HP.out j i hij (by have := HNX.out; omega) ?_
        simp [List.getD, hi, hj, e])
      have TW := Lib.hid (T4.out.trans HW.out)
      have UW := Lib.hid (U4.out.trans HW.out)
      obtain ⟨b0, b1, b2, b3⟩ := bx4 (B0.out.since UW.out)
      cases R with
      | none =>
        simp only [Option.isSome_none, Bool.false_eq_true, if_false] at NA
        go_wp2_with (go_at_call 27; (with_reducible refine (NA.out _ TW.out).mono ?_); rintro e w5 ⟨k5, rfl⟩; have T5 := Lib.hid (TW.out.trans k5); clear k5)
        go_ret
        exact ⟨rfl, T5.out⟩
      | some E =>
        simp only [Option.isSome_some, if_true] at NA
        obtain ⟨g1, g2⟩ := G1.out E rfl
        have hp400 : prodF E ≤ 400 := Int.le_trans (PR.out E rfl) hp3
        have hel : E.length ≤ 1000 := by rw [g2.1]; exact h1000
        have EV := Lib.hid (fun W (k : Since w W) vo (hO : Sl 1 QD W vo E) => EV0.out E g1 hel _ vo _ (hO.since stD (since_alloc _ _)) (CLT.out W k) hp400)
        have HGE := Lib.hid g1
        have TIE := Lib.hid (fun (y : Nat) (e : Int) (hy : y < E.length) (he : mem (domAt E (y : Int)) e) => TI.out E rfl ND.out y e hy he)
        obtain ⟨n, hn⟩ : ∃ n, n = E.length := ⟨_, rfl⟩
        have HN := Lib.hid hn
        have hn1000 : n ≤ 1000 := by omega
        clear TI G1 PR EV0 CLT g1 g2 hp400 hel ND HP hn
        go_wp2_with (first
          | (go_at_call 27; (with_reducible refine (NA.out _ TW.out).mono ?_); rintro e w5 ⟨k5, g, n2, rfl, hg1, hg2, hD5⟩; have hn2 : n = n2 := (by have h1 := hD5.len; have := HN.out; omega); subst hn2; have T5 := Lib.hid (TW.out.trans k5); have D5 := Lib.hid hD5.sl; obtain ⟨b0, b1, b2, b3⟩ := bx4 (B0.out.since (UW.out.trans k5)); clear k5 hg1 hg2 hD5)
          | (go_at_call 31; go_loud ((with_reducible refine (EV.out w5 T5.out _ D5.out).mono ?_); rintro e w6 ⟨A6, m6, c6, rfl, hL, hLm, hm4, k6⟩; have HL := Lib.hid hL; have HLM := Lib.hid hLm; have T6 := Lib.hid (T5.out.trans ((since_alloc _ _).trans k6)); have D6 := Lib.hid (D5.out.since stD ((since_alloc _ _).trans k6)); clear hL hLm k6)))
        generalize hLL : (allB Ev.vals E).filter (holds z0) = LL at *
        have HLW := Lib.hid (show ∀ b ∈ LL, b.length = n by
          intro b hb
          rw [← hLL] at hb
          rw [(all_wi HGE.out (List.mem_filter.1 hb).1).1]; exact HN.out.symm)
        clear hLL EV NA
        go_loopw [76] (fun i wr3 => ∃ (x : Nat), i = .int .i64 (x : Int) ∧ x ≤ n ∧ Hid (Since w6 wr3)) (fun i _ => n - (intOf i).toNat)
        case atStart => exact ⟨0, rfl, Nat.zero_le _, Lib.hid (Since.refl _)⟩
        case round =>
          obtain ⟨x, rfl, hx, HX6⟩ := hrel
          by_cases hxn : x < n
          · have hxe : x < E.length := by have := HN.out; omega
            have gE := HGE.out _ (List.getElem_mem hxe)
            have hdE : domAt E (x : Int) = E[x] := domAt_lt (by exact hxe)
            have T1 := TIE.out x (lo E[x]) hxe (by rw [hdE]; exact lo_mem gE.1 gE.2)
            have T2' := TIE.out x (hi E[x]) hxe (by rw [hdE]; exact hi_mem _ gE.1 gE.2)
            have HT1 := Lib.hid (show LL.any (fun a => valAt a (x : Int) == lo E[x]) = true by obtain ⟨a, ha, e⟩ := T1; exact List.any_eq_true.2 ⟨a, ha, by simp [e]⟩)
            have HT2 := Lib.hid (show LL.any (fun a => valAt a (x : Int) == hi E[x]) = true by obtain ⟨a, ha, e⟩ := T2'; exact List.any_eq_true.2 ⟨a, ha, by simp [e]⟩)
            have hp9 : E[x].length ≤ 1100000 := right_len gE.1
            obtain ⟨dl, hdl⟩ : ∃ n, E[x].length = n + 1 := ⟨E[x].length - 1, by have := List.length_pos_iff.2 gE.2; omega⟩
            have DX := Lib.hid (fun W (k : Since w6 W) => dom_ends (D6.out.since stD k) hxe hdl)
            rw [hdl] at hp9
            generalize lo E[x] = el at *
            generalize hi E[x] = eh at *
            clear T1 T2' gE hdE hdl hxe
            go_wp2
            go_loopw [11, 12, 81] (fun l h i wr4 => ∃ (q : Nat), i = .int .i64 (q : Int) ∧ q ≤ m6 ∧ l = .bool ((LL.take q).any (fun a => valAt a (x : Int) == el)) ∧ h = .bool ((LL.take q).any (fun a => valAt a (x : Int) == eh)) ∧ Hid (Since w6 wr4)) (fun _ _ i _ => m6 - (intOf i).toNat)
            case atStart => exact ⟨0, rfl, Nat.zero_le _, by simp, by simp, HX6⟩
            case round =>
              obtain ⟨q, rfl, hq, rfl, rfl, HV⟩ := hrel
              by_cases hqm : q < m6
              · have hql : q < LL.length := by have := HLM.out; omega
                obtain ⟨gl, ol, BL, cl, hA6, hSL, el2⟩ := elL (HL.out.since stL HV.out) hql
                have hal : LL[q].length = n := HLW.out _ (List.getElem_mem hql)
                have hxl : x < LL[q].length := by omega
                obtain ⟨gv, ov, rfl, ev⟩ := elI hSL hxl
                have hva : valAt LL[q] (x : Int) = LL[q][x] := by simp [valAt, hxl]
                have N1 := Lib.hid (show (LL.take (q + 1)).any (fun a => valAt a (x : Int) == el) = ((LL.take q).any (fun a => valAt a (x : Int) == el) || (LL[q][x] == el)) by rw [List.take_succ_eq_append_getElem hql, List.any_append]; simp [hva])
                have N2 := Lib.hid (show (LL.take (q + 1)).any (fun a => valAt a (x : Int) == eh) = ((LL.take q).any (fun a => valAt a (x : Int) == eh) || (LL[q][x] == eh)) by rw [List.take_succ_eq_append_getElem hql, List.any_append]; simp [hva])
                rw [hal] at el2
                obtain ⟨gb, ob, cd, ed, e1, e2⟩ := DX.out _ HV.out
                generalize LL[q][x] = y at *
                generalize (LL.take q).any (fun a => valAt a (x : Int) == el) = f1 at *
                generalize (LL.take q).any (fun a => valAt a (x : Int) == eh) = f2 at *
                have CV := Lib.hid (fun W (k : Since wr W) => (k.cell _ (World.block_lt_of_cell? _ _ ev)).trans ev)
                have C0 := Lib.hid (fun W (k : Since wr W) => (k.cell _ (World.block_lt_of_cell? _ _ ed)).trans ed)
                have CL := Lib.hid (fun W (k : Since wr W) => (k.cell _ (World.block_lt_of_cell? _ _ e1)).trans e1)
                have CH := Lib.hid (fun W (k : Since wr W) => (k.cell _ (World.block_lt_of_cell? _ _ e2)).trans e2)
                have hwm : IntKind.i64.wrap (dl : Int) = (dl : Int) := by simp [IntKind.wrap, IntKind.bits, IntKind.signed]; omega
                have hmm : (dl : Int) < (dl : Int) + 1 := by omega
                have hd0 : (0 : Int) < (dl : Int) + 1 := by omega
                clear ev ed e1 e2 hSL hal hxl hva hql
                subst hA6
                cases f1 with
                | true =>
                  go_wp2
                  have hr0 : Since wr wr.drew := Since.drew (Since.refl wr)
                  refine wp_region_noPanic ?_
                  refine Reg.wp_region_G (S := fun _ => True) (fun j => [].contains j) (by kernel_rfl) trivial ?_
                  refine' Reg.wpG_take (i := 0) (oi := { dst := some 85, op := Op.move (Operand.tmp 11), type := 4, pos := "law.go:170", after := #[], guard := none }) (v := _) [1, 2, 3, 4, 5, 6, 7, 8, 9, 10, 11, 12, 13, 14, 15] [] rfl rfl (by kernel_rfl) (by kernel_rfl) (by kernel_rfl) (by kernel_rfl) (by kernel_rfl) (by kernel_rfl) (by kernel_rfl) (fun _ _ _ h => h) (Or.inl ⟨by rfl, Or.inl ?_⟩) ?_
                  rotate_left
                  · (intro w' kk ss; have u0 := CV.out _ (hr0.trans kk); have u1 := C0.out _ (hr0.trans kk); have u2 := CL.out _ (hr0.trans kk); go_simp; first | done | with_reducible rfl)
                  try simp only [Act.put, List.setIfInBounds_toArray, List.set_cons_zero, List.set_cons_succ]
                  refine' Reg.wpG_take (i := 1) (oi := { dst := some 86, op := Op.move (Operand.tmp 85), type := 4, pos := "law.go:170", after := #[{ on := 0, ground := Ground.data }], guard := none }) (v := _) [2, 3, 4, 5, 6, 7, 8, 9, 10, 11, 12, 13, 14, 15] [] rfl rfl (by kernel_rfl) (by kernel_rfl) (by kernel_rfl) (by kernel_rfl) (by kernel_rfl) (by kernel_rfl) (by kernel_rfl) (fun _ _ _ h => h) (Or.inl ⟨by rfl, Or.inl ?_⟩) ?_
                  rotate_left
                  · (intro w' kk ss; have u0 := CV.out _ (hr0.trans kk); have u1 := C0.out _ (hr0.trans kk); have u2 := CL.out _ (hr0.trans kk); go_simp; first | done | with_reducible rfl)
                  try simp only [Act.put, List.setIfInBounds_toArray, List.set_cons_zero, List.set_cons_succ]
                  refine Reg.wpG_take (i := 2) (oi := { dst := some 87, op := Op.move (Operand.tmp 14), type := 23, pos := "law.go:170", after := #[{ on := 1, ground := Ground.guard }], guard := some (1, false) }) (v := undef) [4, 5, 13, 14, 15] [] rfl rfl (by kernel_rfl) (by kernel_rfl) (by kernel_rfl) (by kernel_rfl) (by kernel_rfl) (by kernel_rfl) (by kernel_rfl) (fun _ _ _ h => h) (Or.inr ⟨by rfl, rfl⟩) ?_
                  try simp only [Act.put, List.setIfInBounds_toArray, List.set_cons_zero, List.set_cons_succ]
                  refine Reg.wpG_take (i := 3) (oi := { dst := some 88, op := Op.move (Operand.tmp 10), type := 3, pos := "law.go:170", after := #[{ on := 1, ground := Ground.guard }], guard := some (1, false) }) (v := undef) [4, 5, 13, 14, 15] [] rfl rfl (by kernel_rfl) (by kernel_rfl) (by kernel_rfl) (by kernel_rfl) (by kernel_rfl) (by kernel_rfl) (by kernel_rfl) (fun _ _ _ h => h) (Or.inr ⟨by rfl, rfl⟩) ?_
                  try simp only [Act.put, List.setIfInBounds_toArray, List.set_cons_zero, List.set_cons_succ]
                  refine Reg.wpG_take (i := 4) (oi := { dst := some 89, op := Op.indexAddr 23 (Operand.tmp 87) (Operand.tmp 88), type := 0, pos := "law.go:170", after := #[{ on := 2, ground := Ground.data }, { on := 3, ground := Ground.data }, { on := 1, ground := Ground.guard }], guard := some (1, false) }) (v := undef) [5, 13, 14, 15] [] rfl rfl (by kernel_rfl) (by kernel_rfl) (by kernel_rfl) (by kernel_rfl) (by kernel_rfl) (by kernel_rfl) (by kernel_rfl) (fun _ _ _ h => h) (Or.inr ⟨by rfl, rfl⟩) ?_
                  try simp only [Act.put, List.setIfInBounds_toArray, List.set_cons_zero, List.set_cons_succ]
                  refine Reg.wpG_take (i := 5) (oi := { dst := some 90, op := Op.load 2 (Operand.tmp 89), type := 2, pos := "law.go:170", after := #[{ on := 4, ground := Ground.data }, { on := 1, ground := Ground.guard }], guard := some (1, false) }) (v := undef) [13, 14, 15] [] rfl rfl (by kernel_rfl) (by kernel_rfl) (by kernel_rfl) (by kernel_rfl) (by kernel_rfl) (by kernel_rfl) (by kernel_rfl) (fun _ _ _ h => h) (Or.inr ⟨by rfl, rfl⟩) ?_
                  try simp only [Act.put, List.setIfInBounds_toArray, List.set_cons_zero, List.set_cons_succ]
                  refine Reg.wpG_take (i := 6) (oi := { dst := some 91, op := Op.move (Operand.tmp 7), type := 30, pos := "law.go:170", after := #[{ on := 1, ground := Ground.guard }], guard := some (1, false) }) (v := undef) [8, 9, 10, 11, 12, 13, 14, 15] [] rfl rfl (by kernel_rfl) (by kernel_rfl) (by kernel_rfl) (by kernel_rfl) (by kernel_rfl) (by kernel_rfl) (by kernel_rfl) (fun _ _ _ h => h) (Or.inr ⟨by rfl, rfl⟩) ?_
                  try simp only [Act.put, List.setIfInBounds_toArray, List.set_cons_zero, List.set_cons_succ]
                  refine Reg.wpG_take (i := 7) (oi := { dst := some 92, op := Op.move (Operand.tmp 10), type := 3, pos := "law.go:170", after := #[{ on := 1, ground := Ground.guard }], guard := some (1, false) }) (v := undef) [8, 9, 10, 11, 12, 13, 14, 15] [] rfl rfl (by kernel_rfl) (by kernel_rfl) (by kernel_rfl) (by kernel_rfl) (by kernel_rfl) (by kernel_rfl) (by kernel_rfl) (fun _ _ _ h => h) (Or.inr ⟨by rfl, rfl⟩) ?_
                  try simp only [Act.put, List.setIfInBounds_toArray, List.set_cons_zero, List.set_cons_succ]
                  refine Reg.wpG_take (i := 8) (oi := { dst := some 93, op := Op.indexAddr 30 (Operand.tmp 91) (Operand.tmp 92), type := 0, pos := "law.go:170", after := #[{ on := 6, ground := Ground.data }, { on := 7, ground := Ground.data }, { on := 1, ground := Ground.guard }], guard := some (1, false) }) (v := undef) [9, 10, 11, 12, 13, 14, 15] [] rfl rfl (by kernel_rfl) (by kernel_rfl) (by kernel_rfl) (by kernel_rfl) (by kernel_rfl) (by kernel_rfl) (by kernel_rfl) (fun _ _ _ h => h) (Or.inr ⟨by rfl, rfl⟩) ?_
                  try simp only [Act.put, List.setIfInBounds_toArray, List.set_cons_zero, List.set_cons_succ]
                  refine Reg.wpG_take (i := 9) (oi := { dst := some 94, op := Op.load 50 (Operand.tmp 93), type := 50, pos := "law.go:170", after := #[{ on := 8, ground := Ground.data }, { on := 1, ground := Ground.guard }], guard := some (1, false) }) (v := undef) [10, 11, 12, 13, 14, 15] [] rfl rfl (by kernel_rfl) (by kernel_rfl) (by kernel_rfl) (by kernel_rfl) (by kernel_rfl) (by kernel_rfl) (by kernel_rfl) (fun _ _ _ h => h) (Or.inr ⟨by rfl, rfl⟩) ?_
                  try simp only [Act.put, List.setIfInBounds_toArray, List.set_cons_zero, List.set_cons_succ]
                  refine Reg.wpG_take (i := 10) (oi := { dst := some 95, op := Op.indexAddr 50 (Operand.tmp 94) (Operand.const (Value.int IntKind.i64 0)), type := 0, pos := "law.go:170", after := #[{ on := 9, ground := Ground.data }, { on := 1, ground := Ground.guard }], guard := some (1, false) }) (v := undef) [11, 12, 13, 14, 15] [] rfl rfl (by kernel_rfl) (by kernel_rfl) (by kernel_rfl) (by kernel_rfl) (by kernel_rfl) (by kernel_rfl) (by kernel_rfl) (fun _ _ _ h => h) (Or.inr ⟨by rfl, rfl⟩) ?_
                  try simp only [Act.put, List.setIfInBounds_toArray, List.set_cons_zero, List.set_cons_succ]
                  refine Reg.wpG_take (i := 11) (oi := { dst := some 96, op := Op.fieldAddr 49 (Operand.tmp 95) 0, type := 0, pos := "law.go:170", after := #[{ on := 10, ground := Ground.data }, { on := 1, ground := Ground.guard }], guard := some (1, false) }) (v := undef) [12, 13, 14, 15] [] rfl rfl (by kernel_rfl) (by kernel_rfl) (by kernel_rfl) (by kernel_rfl) (by kernel_rfl) (by kernel_rfl) (by kernel_rfl) (fun _ _ _ h => h) (Or.inr ⟨by rfl, rfl⟩) ?_
                  try simp only [Act.put, List.setIfInBounds_toArray, List.set_cons_zero, List.set_cons_succ]
                  refine Reg.wpG_take (i := 12) (oi := { dst := some 97, op := Op.load 2 (Operand.tmp 96), type := 2, pos := "law.go:170", after := #[{ on := 11, ground := Ground.data }, { on := 1, ground := Ground.guard }], guard := some (1, false) }) (v := undef) [13, 14, 15] [] rfl rfl (by kernel_rfl) (by kernel_rfl) (by kernel_rfl) (by kernel_rfl) (by kernel_rfl) (by kernel_rfl) (by kernel_rfl) (fun _ _ _ h => h) (Or.inr ⟨by rfl, rfl⟩) ?_
                  try simp only [Act.put, List.setIfInBounds_toArray, List.set_cons_zero, List.set_cons_succ]
                  refine Reg.wpG_take (i := 13) (oi := { dst := some 98, op := Op.binOp BinOp.eql 2 (Operand.tmp 90) (Operand.tmp 97) 2, type := 4, pos := "law.go:170", after := #[{ on := 5, ground := Ground.data }, { on := 12, ground := Ground.data }, { on := 1, ground := Ground.guard }], guard := some (1, false) }) (v := undef) [14, 15] [] rfl rfl (by kernel_rfl) (by kernel_rfl) (by kernel_rfl) (by kernel_rfl) (by kernel_rfl) (by kernel_rfl) (by kernel_rfl) (fun _ _ _ h => h) (Or.inr ⟨by rfl, rfl⟩) ?_
                  try simp only [Act.put, List.setIfInBounds_toArray, List.set_cons_zero, List.set_cons_succ]
                  refine' Reg.wpG_take (i := 14) (oi := { dst := some 99, op := Op.pick (Operand.tmp 86) (Operand.const (Value.bool true)) (Operand.tmp 98), type := 4, pos := "law.go:170", after := #[{ on := 1, ground := Ground.data }, { on := 13, ground := Ground.data }], guard := none }) (v := _) [15] [] rfl rfl (by kernel_rfl) (by kernel_rfl) (by kernel_rfl) (by kernel_rfl) (by kernel_rfl) (by kernel_rfl) (by kernel_rfl) (fun _ _ _ h => h) (Or.inl ⟨by rfl, Or.inl ?_⟩) ?_
                  rotate_left
                  · (intro w' kk ss; have u0 := CV.out _ (hr0.trans kk); have u1 := C0.out _ (hr0.trans kk); have u2 := CL.out _ (hr0.trans kk); go_simp; first | done | with_reducible rfl)
                  try simp only [Act.put, List.setIfInBounds_toArray, List.set_cons_zero, List.set_cons_succ]
                  refine' Reg.wpG_take (i := 15) (oi := { dst := some 11, op := Op.assign (Operand.tmp 99), type := 4, pos := "law.go:170", after := #[{ on := 14, ground := Ground.data }, { on := 1, ground := Ground.chain }, { on := 0, ground := Ground.phase }, { on := 1, ground := Ground.phase }, { on := 2, ground := Ground.phase }, { on := 3, ground := Ground.phase }, { on := 4, ground := Ground.phase }, { on := 5, ground := Ground.phase }, { on := 6, ground := Ground.phase }, { on := 7, ground := Ground.phase }, { on := 8, ground := Ground.phase }, { on := 9, ground := Ground.phase }, { on := 10, ground := Ground.phase }, { on := 11, ground := Ground.phase }, { on := 12, ground := Ground.phase }, { on := 13, ground := Ground.phase }, { on := 14, ground := Ground.phase }], guard := none }) (v := _) [] [] rfl rfl (by kernel_rfl) (by kernel_rfl) (by kernel_rfl) (by kernel_rfl) (by kernel_rfl) (by kernel_rfl) (by kernel_rfl) (fun _ _ _ h => h) (Or.inl ⟨by rfl, Or.inl ?_⟩) ?_
                  rotate_left
                  · (intro w' kk ss; have u0 := CV.out _ (hr0.trans kk); have u1 := C0.out _ (hr0.trans kk); have u2 := CL.out _ (hr0.trans kk); go_simp; first | done | with_reducible rfl)
                  try simp only [Act.put, List.setIfInBounds_toArray, List.set_cons_zero, List.set_cons_succ]
                  refine Reg.wpG_done (by kernel_rfl) (fun wa ke se => ?_) _
                  refine NoPanic.normal ?_
                  have hr0 := hr0.trans ke
                  clear ke
                  have HA := Lib.hid hr0
                  clear hr0
                  cases f2 with
                  | true =>
                    go_wp2
                    have hr0 : Since wa wa.drew := Since.drew (Since.refl wa)
                    refine wp_region_noPanic ?_
                    refine Reg.wp_region_G (S := fun _ => True) (fun j => [].contains j) (by kernel_rfl) trivial ?_
                    refine' Reg.wpG_take (i := 0) (oi := { dst := some 100, op := Op.move (Operand.tmp 12), type := 4, pos := "law.go:171", after := #[], guard := none }) (v := _) [1, 2, 3, 4, 5, 6, 7, 8, 9, 10, 11, 12, 13, 14, 15, 16, 17, 18, 19, 20, 21] [] rfl rfl (by kernel_rfl) (by kernel_rfl) (by kernel_rfl) (by kernel_rfl) (by kernel_rfl) (by kernel_rfl) (by kernel_rfl) (fun _ _ _ h => h) (Or.inl ⟨by rfl, Or.inl ?_⟩) ?_
                    rotate_left
                    · (intro w' kk ss; have u0 := CV.out _ (HA.out.trans (hr0.trans kk)); have u1 := C0.out _ (HA.out.trans (hr0.trans kk)); have u2 := CH.out _ (HA.out.trans (hr0.trans kk)); go_simp; first | done | with_reducible rfl)
                    try simp only [Act.put, List.setIfInBounds_toArray, List.set_cons_zero, List.set_cons_succ]
                    refine' Reg.wpG_take (i := 1) (oi := { dst := some 101, op := Op.move (Operand.tmp 100), type := 4, pos := "law.go:171", after := #[{ on := 0, ground := Ground.data }], guard := none }) (v := _) [2, 3, 4, 5, 6, 7, 8, 9, 10, 11, 12, 13, 14, 15, 16, 17, 18, 19, 20, 21] [] rfl rfl (by kernel_rfl) (by kernel_rfl) (by kernel_rfl) (by kernel_rfl) (by kernel_rfl) (by kernel_rfl) (by kernel_rfl) (fun _ _ _ h => h) (Or.inl ⟨by rfl, Or.inl ?_⟩) ?_
                    rotate_left
                    · (intro w' kk ss; have u0 := CV.out _ (HA.out.trans (hr0.trans kk)); have u1 := C0.out _ (HA.out.trans (hr0.trans kk)); have u2 := CH.out _ (HA.out.trans (hr0.trans kk)); go_simp; first | done | with_reducible rfl)
                    try simp only [Act.put, List.setIfInBounds_toArray, List.set_cons_zero, List.set_cons_succ]
                    refine Reg.wpG_take (i := 2) (oi := { dst := some 102, op := Op.move (Operand.tmp 14), type := 23, pos := "law.go:171", after := #[{ on := 1, ground := Ground.guard }], guard := some (1, false) }) (v := undef) [4, 5, 19, 20, 21] [] rfl rfl (by kernel_rfl) (by kernel_rfl) (by kernel_rfl) (by kernel_rfl) (by kernel_rfl) (by kernel_rfl) (by kernel_rfl) (fun _ _ _ h => h) (Or.inr ⟨by rfl, rfl⟩) ?_
                    try simp only [Act.put, List.setIfInBounds_toArray, List.set_cons_zero, List.set_cons_succ]
                    refine Reg.wpG_take (i := 3) (oi := { dst := some 103, op := Op.move (Operand.tmp 10), type := 3, pos := "law.go:171", after := #[{ on := 1, ground := Ground.guard }], guard := some (1, false) }) (v := undef) [4, 5, 19, 20, 21] [] rfl rfl (by kernel_rfl) (by kernel_rfl) (by kernel_rfl) (by kernel_rfl) (by kernel_rfl) (by kernel_rfl) (by kernel_rfl) (fun _ _ _ h => h) (Or.inr ⟨by rfl, rfl⟩) ?_
                    try simp only [Act.put, List.setIfInBounds_toArray, List.set_cons_zero, List.set_cons_succ]
                    refine Reg.wpG_take (i := 4) (oi := { dst := some 104, op := Op.indexAddr 23 (Operand.tmp 102) (Operand.tmp 103), type := 0, pos := "law.go:171", after := #[{ on := 2, ground := Ground.data }, { on := 3, ground := Ground.data }, { on := 1, ground := Ground.guard }], guard := some (1, false) }) (v := undef) [5, 19, 20, 21] [] rfl rfl (by kernel_rfl) (by kernel_rfl) (by kernel_rfl) (by kernel_rfl) (by kernel_rfl) (by kernel_rfl) (by kernel_rfl) (fun _ _ _ h => h) (Or.inr ⟨by rfl, rfl⟩) ?_
                    try simp only [Act.put, List.setIfInBounds_toArray, List.set_cons_zero, List.set_cons_succ]
                    refine Reg.wpG_take (i := 5) (oi := { dst := some 105, op := Op.load 2 (Operand.tmp 104), type := 2, pos := "law.go:171", after := #[{ on := 4, ground := Ground.data }, { on := 1, ground := Ground.guard }], guard := some (1, false) }) (v := undef) [19, 20, 21] [] rfl rfl (by kernel_rfl) (by kernel_rfl) (by kernel_rfl) (by kernel_rfl) (by kernel_rfl) (by kernel_rfl) (by kernel_rfl) (fun _ _ _ h => h) (Or.inr ⟨by rfl, rfl⟩) ?_
                    try simp only [Act.put, List.setIfInBounds_toArray, List.set_cons_zero, List.set_cons_succ]
                    refine Reg.wpG_take (i := 6) (oi := { dst := some 106, op := Op.move (Operand.tmp 7), type := 30, pos := "law.go:171", after := #[{ on := 1, ground := Ground.guard }], guard := some (1, false) }) (v := undef) [8, 9, 16, 17, 18, 19, 20, 21] [] rfl rfl (by kernel_rfl) (by kernel_rfl) (by kernel_rfl) (by kernel_rfl) (by kernel_rfl) (by kernel_rfl) (by kernel_rfl) (fun _ _ _ h => h) (Or.inr ⟨by rfl, rfl⟩) ?_
                    try simp only [Act.put, List.setIfInBounds_toArray, List.set_cons_zero, List.set_cons_succ]
                    refine Reg.wpG_take (i := 7) (oi := { dst := some 107, op := Op.move (Operand.tmp 10), type := 3, pos := "law.go:171", after := #[{ on := 1, ground := Ground.guard }], guard := some (1, false) }) (v := undef) [8, 9, 16, 17, 18, 19, 20, 21] [] rfl rfl (by kernel_rfl) (by kernel_rfl) (by kernel_rfl) (by kernel_rfl) (by kernel_rfl) (by kernel_rfl) (by kernel_rfl) (fun _ _ _ h => h) (Or.inr ⟨by rfl, rfl⟩) ?_
                    try simp only [Act.put, List.setIfInBounds_toArray, List.set_cons_zero, List.set_cons_succ]
                    refine Reg.wpG_take (i := 8) (oi := { dst := some 108, op := Op.indexAddr 30 (Operand.tmp 106) (Operand.tmp 107), type := 0, pos := "law.go:171", after := #[{ on := 6, ground := Ground.data }, { on := 7, ground := Ground.data }, { on := 1, ground := Ground.guard }], guard := some (1, false) }) (v := undef) [9, 16, 17, 18, 19, 20, 21] [] rfl rfl (by kernel_rfl) (by kernel_rfl) (by kernel_rfl) (by kernel_rfl) (by kernel_rfl) (by kernel_rfl) (by kernel_rfl) (fun _ _ _ h => h) (Or.inr ⟨by rfl, rfl⟩) ?_
                    try simp only [Act.put, List.setIfInBounds_toArray, List.set_cons_zero, List.set_cons_succ]
                    refine Reg.wpG_take (i := 9) (oi := { dst := some 109, op := Op.load 50 (Operand.tmp 108), type := 50, pos := "law.go:171", after := #[{ on := 8, ground := Ground.data }, { on := 1, ground := Ground.guard }], guard := some (1, false) }) (v := undef) [16, 17, 18, 19, 20, 21] [] rfl rfl (by kernel_rfl) (by kernel_rfl) (by kernel_rfl) (by kernel_rfl) (by kernel_rfl) (by kernel_rfl) (by kernel_rfl) (fun _ _ _ h => h) (Or.inr ⟨by rfl, rfl⟩) ?_
                    try simp only [Act.put, List.setIfInBounds_toArray, List.set_cons_zero, List.set_cons_succ]
                    refine Reg.wpG_take (i := 10) (oi := { dst := some 110, op := Op.move (Operand.tmp 7), type := 30, pos := "law.go:171", after := #[{ on := 1, ground := Ground.guard }], guard := some (1, false) }) (v := undef) [12, 13, 14, 15, 16, 17, 18, 19, 20, 21] [] rfl rfl (by kernel_rfl) (by kernel_rfl) (by kernel_rfl) (by kernel_rfl) (by kernel_rfl) (by kernel_rfl) (by kernel_rfl) (fun _ _ _ h => h) (Or.inr ⟨by rfl, rfl⟩) ?_
                    try simp only [Act.put, List.setIfInBounds_toArray, List.set_cons_zero, List.set_cons_succ]
                    refine Reg.wpG_take (i := 11) (oi := { dst := some 111, op := Op.move (Operand.tmp 10), type := 3, pos := "law.go:171", after := #[{ on := 1, ground := Ground.guard }], guard := some (1, false) }) (v := undef) [12, 13, 14, 15, 16, 17, 18, 19, 20, 21] [] rfl rfl (by kernel_rfl) (by kernel_rfl) (by kernel_rfl) (by kernel_rfl) (by kernel_rfl) (by kernel_rfl) (by kernel_rfl) (fun _ _ _ h => h) (Or.inr ⟨by rfl, rfl⟩) ?_
                    try simp only [Act.put, List.setIfInBounds_toArray, List.set_cons_zero, List.set_cons_succ]
                    refine Reg.wpG_take (i := 12) (oi := { dst := some 112, op := Op.indexAddr 30 (Operand.tmp 110) (Operand.tmp 111), type := 0, pos := "law.go:171", after := #[{ on := 10, ground := Ground.data }, { on := 11, ground := Ground.data }, { on := 1, ground := Ground.guard }], guard := some (1, false) }) (v := undef) [13, 14, 15, 16, 17, 18, 19, 20, 21] [] rfl rfl (by kernel_rfl) (by kernel_rfl) (by kernel_rfl) (by kernel_rfl) (by kernel_rfl) (by kernel_rfl) (by kernel_rfl) (fun _ _ _ h => h) (Or.inr ⟨by rfl, rfl⟩) ?_
                    try simp only [Act.put, List.setIfInBounds_toArray, List.set_cons_zero, List.set_cons_succ]
                    refine Reg.wpG_take (i := 13) (oi := { dst := some 113, op := Op.load 50 (Operand.tmp 112), type := 50, pos := "law.go:171", after := #[{ on := 12, ground := Ground.data }, { on := 1, ground := Ground.guard }], guard := some (1, false) }) (v := undef) [14, 15, 16, 17, 18, 19, 20, 21] [] rfl rfl (by kernel_rfl) (by kernel_rfl) (by kernel_rfl) (by kernel_rfl) (by kernel_rfl) (by kernel_rfl) (by kernel_rfl) (fun _ _ _ h => h) (Or.inr ⟨by rfl, rfl⟩) ?_
                    try simp only [Act.put, List.setIfInBounds_toArray, List.set_cons_zero, List.set_cons_succ]
                    refine Reg.wpG_take (i := 14) (oi := { dst := some 114, op := Op.call { callee := Callee.builtin Builtin.len, args := #[Operand.tmp 113], argTypes := #[50] }, type := 3, pos := "law.go:171", after := #[{ on := 13, ground := Ground.data }, { on := 1, ground := Ground.guard }], guard := some (1, false) }) (v := undef) [15, 16, 17, 18, 19, 20, 21] [] rfl rfl (by kernel_rfl) (by kernel_rfl) (by kernel_rfl) (by kernel_rfl) (by kernel_rfl) (by kernel_rfl) (by kernel_rfl) (fun _ _ _ h => h) (Or.inr ⟨by rfl, rfl⟩) ?_
                    try simp only [Act.put, List.setIfInBounds_toArray, List.set_cons_zero, List.set_cons_succ]
                    refine Reg.wpG_take (i := 15) (oi := { dst := some 115, op := Op.binOp BinOp.sub 3 (Operand.tmp 114) (Operand.const (Value.int IntKind.i64 1)) 3, type := 3, pos := "law.go:171", after := #[{ on := 14, ground := Ground.data }, { on := 1, ground := Ground.guard }], guard := some (1, false) }) (v := undef) [16, 17, 18, 19, 20, 21] [] rfl rfl (by kernel_rfl) (by kernel_rfl) (by kernel_rfl) (by kernel_rfl) (by kernel_rfl) (by kernel_rfl) (by kernel_rfl) (fun _ _ _ h => h) (Or.inr ⟨by rfl, rfl⟩) ?_
                    try simp only [Act.put, List.setIfInBounds_toArray, List.set_cons_zero, List.set_cons_succ]
                    refine Reg.wpG_take (i := 16) (oi := { dst := some 116, op := Op.indexAddr 50 (Operand.tmp 109) (Operand.tmp 115), type := 0, pos := "law.go:171", after := #[{ on := 9, ground := Ground.data }, { on := 15, ground := Ground.data }, { on := 1, ground := Ground.guard }], guard := some (1, false) }) (v := undef) [17, 18, 19, 20, 21] [] rfl rfl (by kernel_rfl) (by kernel_rfl) (by kernel_rfl) (by kernel_rfl) (by kernel_rfl) (by kernel_rfl) (by kernel_rfl) (fun _ _ _ h => h) (Or.inr ⟨by rfl, rfl⟩) ?_
                    try simp only [Act.put, List.setIfInBounds_toArray, List.set_cons_zero, List.set_cons_succ]
                    refine Reg.wpG_take (i := 17) (oi := { dst := some 117, op := Op.fieldAddr 49 (Operand.tmp 116) 1, type := 0, pos := "law.go:171", after := #[{ on := 16, ground := Ground.data }, { on := 1, ground := Ground.guard }], guard := some (1, false) }) (v := undef) [18, 19, 20, 21] [] rfl rfl (by kernel_rfl) (by kernel_rfl) (by kernel_rfl) (by kernel_rfl) (by kernel_rfl) (by kernel_rfl) (by kernel_rfl) (fun _ _ _ h => h) (Or.inr ⟨by rfl, rfl⟩) ?_
                    try simp only [Act.put, List.setIfInBounds_toArray, List.set_cons_zero, List.set_cons_succ]
                    refine Reg.wpG_take (i := 18) (oi := { dst := some 118, op := Op.load 2 (Operand.tmp 117), type := 2, pos := "law.go:171", after := #[{ on := 17, ground := Ground.data }, { on := 1, ground := Ground.guard }], guard := some (1, false) }) (v := undef) [19, 20, 21] [] rfl rfl (by kernel_rfl) (by kernel_rfl) (by kernel_rfl) (by kernel_rfl) (by kernel_rfl) (by kernel_rfl) (by kernel_rfl) (fun _ _ _ h => h) (Or.inr ⟨by rfl, rfl⟩) ?_
                    try simp only [Act.put, List.setIfInBounds_toArray, List.set_cons_zero, List.set_cons_succ]
                    refine Reg.wpG_take (i := 19) (oi := { dst := some 119, op := Op.binOp BinOp.eql 2 (Operand.tmp 105) (Operand.tmp 118) 2, type := 4, pos := "law.go:171", after := #[{ on := 5, ground := Ground.data }, { on := 18, ground := Ground.data }, { on := 1, ground := Ground.guard }], guard := some (1, false) }) (v := undef) [20, 21] [] rfl rfl (by kernel_rfl) (by kernel_rfl) (by kernel_rfl) (by kernel_rfl) (by kernel_rfl) (by kernel_rfl) (by kernel_rfl) (fun _ _ _ h => h) (Or.inr ⟨by rfl, rfl⟩) ?_
                    try simp only [Act.put, List.setIfInBounds_toArray, List.set_cons_zero, List.set_cons_succ]
                    refine' Reg.wpG_take (i := 20) (oi := { dst := some 120, op := Op.pick (Operand.tmp 101) (Operand.const (Value.bool true)) (Operand.tmp 119), type := 4, pos := "law.go:171", after := #[{ on := 1, ground := Ground.data }, { on := 19, ground := Ground.data }], guard := none }) (v := _) [21] [] rfl rfl (by kernel_rfl) (by kernel_rfl) (by kernel_rfl) (by kernel_rfl) (by kernel_rfl) (by kernel_rfl) (by kernel_rfl) (fun _ _ _ h => h) (Or.inl ⟨by rfl, Or.inl ?_⟩) ?_
                    rotate_left
                    · (intro w' kk ss; have u0 := CV.out _ (HA.out.trans (hr0.trans kk)); have u1 := C0.out _ (HA.out.trans (hr0.trans kk)); have u2 := CH.out _ (HA.out.trans (hr0.trans kk)); go_simp; first | done | with_reducible rfl)
                    try simp only [Act.put, List.setIfInBounds_toArray, List.set_cons_zero, List.set_cons_succ]
                    refine' Reg.wpG_take (i := 21) (oi := { dst := some 12, op := Op.assign (Operand.tmp 120), type := 4, pos := "law.go:171", after := #[{ on := 20, ground := Ground.data }, { on := 1, ground := Ground.chain }, { on := 0, ground := Ground.phase }, { on := 1, ground := Ground.phase }, { on := 2, ground := Ground.phase }, { on := 3, ground := Ground.phase }, { on := 4, ground := Ground.phase }, { on := 5, ground := Ground.phase }, { on := 6, ground := Ground.phase }, { on := 7, ground := Ground.phase }, { on := 8, ground := Ground.phase }, { on := 9, ground := Ground.phase }, { on := 10, ground := Ground.phase }, { on := 11, ground := Ground.phase }, { on := 12, ground := Ground.phase }, { on := 13, ground := Ground.phase }, { on := 14, ground := Ground.phase }, { on := 15, ground := Ground.phase }, { on := 16, ground := Ground.phase }, { on := 17, ground := Ground.phase }, { on := 18, ground := Ground.phase }, { on := 19, ground := Ground.phase }, { on := 20, ground := Ground.phase }], guard := none }) (v := _) [] [] rfl rfl (by kernel_rfl) (by kernel_rfl) (by kernel_rfl) (by kernel_rfl) (by kernel_rfl) (by kernel_rfl) (by kernel_rfl) (fun _ _ _ h => h) (Or.inl ⟨by rfl, Or.inl ?_⟩) ?_
                    rotate_left
                    · (intro w' kk ss; have u0 := CV.out _ (HA.out.trans (hr0.trans kk)); have u1 := C0.out _ (HA.out.trans (hr0.trans kk)); have u2 := CH.out _ (HA.out.trans (hr0.trans kk)); go_simp; first | done | with_reducible rfl)
                    try simp only [Act.put, List.setIfInBounds_toArray, List.set_cons_zero, List.set_cons_succ]
                    refine Reg.wpG_done (by kernel_rfl) (fun wb ke se => ?_) _
                    refine NoPanic.normal ?_
                    have hr0 := hr0.trans ke
                    clear ke
                    have HBB := Lib.hid hr0
                    clear hr0
                    go_wp2
                    go_roundw
                    case rel => exact ⟨q + 1, by go_num, by omega, by rw [N1.out]; simp, by rw [N2.out]; simp, Lib.hid (HV.out.trans (HA.out.trans HBB.out))⟩
                    case measure => simp [intOf]; omega
                  | false =>
                    by_cases ce : y = eh
                    all_goals
                      go_wp2
                      have hr0 : Since wa wa.drew := Since.drew (Since.refl wa)
                      refine wp_region_noPanic ?_
                      refine Reg.wp_region_G (S := fun _ => True) (fun j => [].contains j) (by kernel_rfl) trivial ?_
                      refine' Reg.wpG_take (i := 0) (oi := { dst := some 100, op := Op.move (Operand.tmp 12), type := 4, pos := "law.go:171", after := #[], guard := none }) (v := _) [1, 2, 3, 4, 5, 6, 7, 8, 9, 10, 11, 12, 13, 14, 15, 16, 17, 18, 19, 20, 21] [] rfl rfl (by kernel_rfl) (by kernel_rfl) (by kernel_rfl) (by kernel_rfl) (by kernel_rfl) (by kernel_rfl) (by kernel_rfl) (fun _ _ _ h => h) (Or.inl ⟨by rfl, Or.inl ?_⟩) ?_
                      rotate_left
                      · (intro w' kk ss; have u0 := CV.out _ (HA.out.trans (hr0.trans kk)); have u1 := C0.out _ (HA.out.trans (hr0.trans kk)); have u2 := CH.out _ (HA.out.trans (hr0.trans kk)); go_simp; first | done | with_reducible rfl)
                      try simp only [Act.put, List.setIfInBounds_toArray, List.set_cons_zero, List.set_cons_succ]
                      refine' Reg.wpG_take (i := 1) (oi := { dst := some 101, op := Op.move (Operand.tmp 100), type := 4, pos := "law.go:171", after := #[{ on := 0, ground := Ground.data }], guard := none }) (v := _) [2, 3, 4, 5, 6, 7, 8, 9, 10, 11, 12, 13, 14, 15, 16, 17, 18, 19, 20, 21] [] rfl rfl (by kernel_rfl) (by kernel_rfl) (by kernel_rfl) (by kernel_rfl) (by kernel_rfl) (by kernel_rfl) (by kernel_rfl) (fun _ _ _ h => h) (Or.inl ⟨by rfl, Or.inl ?_⟩) ?_
                      rotate_left
                      · (intro w' kk ss; have u0 := CV.out _ (HA.out.trans (hr0.trans kk)); have u1 := C0.out _ (HA.out.trans (hr0.trans kk)); have u2 := CH.out _ (HA.out.trans (hr0.trans kk)); go_simp; first | done | with_reducible rfl)
                      try simp only [Act.put, List.setIfInBounds_toArray, List.set_cons_zero, List.set_cons_succ]
                      refine' Reg.wpG_take (i := 2) (oi := { dst := some 102, op := Op.move (Operand.tmp 14), type := 23, pos := "law.go:171", after := #[{ on := 1, ground := Ground.guard }], guard := some (1, false) }) (v := _) [4, 5, 19, 20, 21] [] rfl rfl (by kernel_rfl) (by kernel_rfl) (by kernel_rfl) (by kernel_rfl) (by kernel_rfl) (by kernel_rfl) (by kernel_rfl) (fun _ _ _ h => h) (Or.inl ⟨by rfl, Or.inl ?_⟩) ?_
                      rotate_left
                      · (intro w' kk ss; have u0 := CV.out _ (HA.out.trans (hr0.trans kk)); have u1 := C0.out _ (HA.out.trans (hr0.trans kk)); have u2 := CH.out _ (HA.out.trans (hr0.trans kk)); go_simp; first | done | with_reducible rfl)
                      try simp only [Act.put, List.setIfInBounds_toArray, List.set_cons_zero, List.set_cons_succ]
                      refine' Reg.wpG_take (i := 3) (oi := { dst := some 103, op := Op.move (Operand.tmp 10), type := 3, pos := "law.go:171", after := #[{ on := 1, ground := Ground.guard }], guard := some (1, false) }) (v := _) [4, 5, 19, 20, 21] [] rfl rfl (by kernel_rfl) (by kernel_rfl) (by kernel_rfl) (by kernel_rfl) (by kernel_rfl) (by kernel_rfl) (by kernel_rfl) (fun _ _ _ h => h) (Or.inl ⟨by rfl, Or.inl ?_⟩) ?_
                      rotate_left
                      · (intro w' kk ss; have u0 := CV.out _ (HA.out.trans (hr0.trans kk)); have u1 := C0.out _ (HA.out.trans (hr0.trans kk)); have u2 := CH.out _ (HA.out.trans (hr0.trans kk)); go_simp; first | done | with_reducible rfl)
                      try simp only [Act.put, List.setIfInBounds_toArray, List.set_cons_zero, List.set_cons_succ]
                      refine' Reg.wpG_take (i := 4) (oi := { dst := some 104, op := Op.indexAddr 23 (Operand.tmp 102) (Operand.tmp 103), type := 0, pos := "law.go:171", after := #[{ on := 2, ground := Ground.data }, { on := 3, ground := Ground.data }, { on := 1, ground := Ground.guard }], guard := some (1, false) }) (v := _) [5, 19, 20, 21] [] rfl rfl (by kernel_rfl) (by kernel_rfl) (by kernel_rfl) (by kernel_rfl) (by kernel_rfl) (by kernel_rfl) (by kernel_rfl) (fun _ _ _ h => h) (Or.inl ⟨by rfl, Or.inl ?_⟩) ?_
                      rotate_left
                      · (intro w' kk ss; have u0 := CV.out _ (HA.out.trans (hr0.trans kk)); have u1 := C0.out _ (HA.out.trans (hr0.trans kk)); have u2 := CH.out _ (HA.out.trans (hr0.trans kk)); go_simp; first | done | with_reducible rfl)
                      try simp only [Act.put, List.setIfInBounds_toArray, List.set_cons_zero, List.set_cons_succ]
                      refine' Reg.wpG_take (i := 5) (oi := { dst := some 105, op := Op.load 2 (Operand.tmp 104), type := 2, pos := "law.go:171", after := #[{ on := 4, ground := Ground.data }, { on := 1, ground := Ground.guard }], guard := some (1, false) }) (v := _) [19, 20, 21] [] rfl rfl (by kernel_rfl) (by kernel_rfl) (by kernel_rfl) (by kernel_rfl) (by kernel_rfl) (by kernel_rfl) (by kernel_rfl) (fun _ _ _ h => h) (Or.inl ⟨by rfl, Or.inl ?_⟩) ?_
                      rotate_left
                      · (intro w' kk ss; have u0 := CV.out _ (HA.out.trans (hr0.trans kk)); have u1 := C0.out _ (HA.out.trans (hr0.trans kk)); have u2 := CH.out _ (HA.out.trans (hr0.trans kk)); go_simp; first | done | with_reducible rfl)
                      try simp only [Act.put, List.setIfInBounds_toArray, List.set_cons_zero, List.set_cons_succ]
                      refine' Reg.wpG_take (i := 6) (oi := { dst := some 106, op := Op.move (Operand.tmp 7), type := 30, pos := "law.go:171", after := #[{ on := 1, ground := Ground.guard }], guard := some (1, false) }) (v := _) [8, 9, 16, 17, 18, 19, 20, 21] [] rfl rfl (by kernel_rfl) (by kernel_rfl) (by kernel_rfl) (by kernel_rfl) (by kernel_rfl) (by kernel_rfl) (by kernel_rfl) (fun _ _ _ h => h) (Or.inl ⟨by rfl, Or.inl ?_⟩) ?_
                      rotate_left
                      · (intro w' kk ss; have u0 := CV.out _ (HA.out.trans (hr0.trans kk)); have u1 := C0.out _ (HA.out.trans (hr0.trans kk)); have u2 := CH.out _ (HA.out.trans (hr0.trans kk)); go_simp; first | done | with_reducible rfl)
                      try simp only [Act.put, List.setIfInBounds_toArray, List.set_cons_zero, List.set_cons_succ]
                      refine' Reg.wpG_take (i := 7) (oi := { dst := some 107, op := Op.move (Operand.tmp 10), type := 3, pos := "law.go:171", after := #[{ on := 1, ground := Ground.guard }], guard := some (1, false) }) (v := _) [8, 9, 16, 17, 18, 19, 20, 21] [] rfl rfl (by kernel_rfl) (by kernel_rfl) (by kernel_rfl) (by kernel_rfl) (by kernel_rfl) (by kernel_rfl) (by kernel_rfl) (fun _ _ _ h => h) (Or.inl ⟨by rfl, Or.inl ?_⟩) ?_
                      rotate_left
                      · (intro w' kk ss; have u0 := CV.out _ (HA.out.trans (hr0.trans kk)); have u1 := C0.out _ (HA.out.trans (hr0.trans kk)); have u2 := CH.out _ (HA.out.trans (hr0.trans kk)); go_simp; first | done | with_reducible rfl)
                      try simp only [Act.put, List.setIfInBounds_toArray, List.set_cons_zero, List.set_cons_succ]
                      refine' Reg.wpG_take (i := 8) (oi := { dst := some 108, op := Op.indexAddr 30 (Operand.tmp 106) (Operand.tmp 107), type := 0, pos := "law.go:171", after := #[{ on := 6, ground := Ground.data }, { on := 7, ground := Ground.data }, { on := 1, ground := Ground.guard }], guard := some (1, false) }) (v := _) [9, 16, 17, 18, 19, 20, 21] [] rfl rfl (by kernel_rfl) (by kernel_rfl) (by kernel_rfl) (by kernel_rfl) (by kernel_rfl) (by kernel_rfl) (by kernel_rfl) (fun _ _ _ h => h) (Or.inl ⟨by rfl, Or.inl ?_⟩) ?_
                      rotate_left
                      · (intro w' kk ss; have u0 := CV.out _ (HA.out.trans (hr0.trans kk)); have u1 := C0.out _ (HA.out.trans (hr0.trans kk)); have u2 := CH.out _ (HA.out.trans (hr0.trans kk)); go_simp; first | done | with_reducible rfl)
                      try simp only [Act.put, List.setIfInBounds_toArray, List.set_cons_zero, List.set_cons_succ]
                      refine' Reg.wpG_take (i := 9) (oi := { dst := some 109, op := Op.load 50 (Operand.tmp 108), type := 50, pos := "law.go:171", after := #[{ on := 8, ground := Ground.data }, { on := 1, ground := Ground.guard }], guard := some (1, false) }) (v := _) [16, 17, 18, 19, 20, 21] [] rfl rfl (by kernel_rfl) (by kernel_rfl) (by kernel_rfl) (by kernel_rfl) (by kernel_rfl) (by kernel_rfl) (by kernel_rfl) (fun _ _ _ h => h) (Or.inl ⟨by rfl, Or.inl ?_⟩) ?_
                      rotate_left
                      · (intro w' kk ss; have u0 := CV.out _ (HA.out.trans (hr0.trans kk)); have u1 := C0.out _ (HA.out.trans (hr0.trans kk)); have u2 := CH.out _ (HA.out.trans (hr0.trans kk)); go_simp; first | done | with_reducible rfl)
                      try simp only [Act.put, List.setIfInBounds_toArray, List.set_cons_zero, List.set_cons_succ]
                      refine' Reg.wpG_take (i := 10) (oi := { dst := some 110, op := Op.move (Operand.tmp 7), type := 30, pos := "law.go:171", after := #[{ on := 1, ground := Ground.guard }], guard := some (1, false) }) (v := _) [12, 13, 14, 15, 16, 17, 18, 19, 20, 21] [] rfl rfl (by kernel_rfl) (by kernel_rfl) (by kernel_rfl) (by kernel_rfl) (by kernel_rfl) (by kernel_rfl) (by kernel_rfl) (fun _ _ _ h => h) (Or.inl ⟨by rfl, Or.inl ?_⟩) ?_
                      rotate_left
                      · (intro w' kk ss; have u0 := CV.out _ (HA.out.trans (hr0.trans kk)); have u1 := C0.out _ (HA.out.trans (hr0.trans kk)); have u2 := CH.out _ (HA.out.trans (hr0.trans kk)); go_simp; first | done | with_reducible rfl)
                      try simp only [Act.put, List.setIfInBounds_toArray, List.set_cons_zero, List.set_cons_succ]
                      refine' Reg.wpG_take (i := 11) (oi := { dst := some 111, op := Op.move (Operand.tmp 10), type := 3, pos := "law.go:171", after := #[{ on := 1, ground := Ground.guard }], guard := some (1, false) }) (v := _) [12, 13, 14, 15, 16, 17, 18, 19, 20, 21] [] rfl rfl (by kernel_rfl) (by kernel_rfl) (by kernel_rfl) (by kernel_rfl) (by kernel_rfl) (by kernel_rfl) (by kernel_rfl) (fun _ _ _ h => h) (Or.inl ⟨by rfl, Or.inl ?_⟩) ?_
                      rotate_left
                      · (intro w' kk ss; have u0 := CV.out _ (HA.out.trans (hr0.trans kk)); have u1 := C0.out _ (HA.out.trans (hr0.trans kk)); have u2 := CH.out _ (HA.out.trans (hr0.trans kk)); go_simp; first | done | with_reducible rfl)
                      try simp only [Act.put, List.setIfInBounds_toArray, List.set_cons_zero, List.set_cons_succ]
                      refine' Reg.wpG_take (i := 12) (oi := { dst := some 112, op := Op.indexAddr 30 (Operand.tmp 110) (Operand.tmp 111), type := 0, pos := "law.go:171", after := #[{ on := 10, ground := Ground.data }, { on := 11, ground := Ground.data }, { on := 1, ground := Ground.guard }], guard := some (1, false) }) (v := _) [13, 14, 15, 16, 17, 18, 19, 20, 21] [] rfl rfl (by kernel_rfl) (by kernel_rfl) (by kernel_rfl) (by kernel_rfl) (by kernel_rfl) (by kernel_rfl) (by kernel_rfl) (fun _ _ _ h => h) (Or.inl ⟨by rfl, Or.inl ?_⟩) ?_
                      rotate_left
                      · (intro w' kk ss; have u0 := CV.out _ (HA.out.trans (hr0.trans kk)); have u1 := C0.out _ (HA.out.trans (hr0.trans kk)); have u2 := CH.out _ (HA.out.trans (hr0.trans kk)); go_simp; first | done | with_reducible rfl)
                      try simp only [Act.put, List.setIfInBounds_toArray, List.set_cons_zero, List.set_cons_succ]
                      refine' Reg.wpG_take (i := 13) (oi := { dst := some 113, op := Op.load 50 (Operand.tmp 112), type := 50, pos := "law.go:171", after := #[{ on := 12, ground := Ground.data }, { on := 1, ground := Ground.guard }], guard := some (1, false) }) (v := _) [14, 15, 16, 17, 18, 19, 20, 21] [] rfl rfl (by kernel_rfl) (by kernel_rfl) (by kernel_rfl) (by kernel_rfl) (by kernel_rfl) (by kernel_rfl) (by kernel_rfl) (fun _ _ _ h => h) (Or.inl ⟨by rfl, Or.inl ?_⟩) ?_
                      rotate_left
                      · (intro w' kk ss; have u0 := CV.out _ (HA.out.trans (hr0.trans kk)); have u1 := C0.out _ (HA.out.trans (hr0.trans kk)); have u2 := CH.out _ (HA.out.trans (hr0.trans kk)); go_simp; first | done | with_reducible rfl)
                      try simp only [Act.put, List.setIfInBounds_toArray, List.set_cons_zero, List.set_cons_succ]
                      refine' Reg.wpG_take (i := 14) (oi := { dst := some 114, op := Op.call { callee := Callee.builtin Builtin.len, args := #[Operand.tmp 113], argTypes := #[50] }, type := 3, pos := "law.go:171", after := #[{ on := 13, ground := Ground.data }, { on := 1, ground := Ground.guard }], guard := some (1, false) }) (v := _) [15, 16, 17, 18, 19, 20, 21] [] rfl rfl (by kernel_rfl) (by kernel_rfl) (by kernel_rfl) (by kernel_rfl) (by kernel_rfl) (by kernel_rfl) (by kernel_rfl) (fun _ _ _ h => h) (Or.inl ⟨by rfl, Or.inl ?_⟩) ?_
                      rotate_left
                      · (intro w' kk ss; have u0 := CV.out _ (HA.out.trans (hr0.trans kk)); have u1 := C0.out _ (HA.out.trans (hr0.trans kk)); have u2 := CH.out _ (HA.out.trans (hr0.trans kk)); go_simp; first | done | with_reducible rfl)
                      try simp only [Act.put, List.setIfInBounds_toArray, List.set_cons_zero, List.set_cons_succ]
                      refine' Reg.wpG_take (i := 15) (oi := { dst := some 115, op := Op.binOp BinOp.sub 3 (Operand.tmp 114) (Operand.const (Value.int IntKind.i64 1)) 3, type := 3, pos := "law.go:171", after := #[{ on := 14, ground := Ground.data }, { on := 1, ground := Ground.guard }], guard := some (1, false) }) (v := _) [16, 17, 18, 19, 20, 21] [] rfl rfl (by kernel_rfl) (by kernel_rfl) (by kernel_rfl) (by kernel_rfl) (by kernel_rfl) (by kernel_rfl) (by kernel_rfl) (fun _ _ _ h => h) (Or.inl ⟨by rfl, Or.inl ?_⟩) ?_
                      rotate_left
                      · (intro w' kk ss; have u0 := CV.out _ (HA.out.trans (hr0.trans kk)); have u1 := C0.out _ (HA.out.trans (hr0.trans kk)); have u2 := CH.out _ (HA.out.trans (hr0.trans kk)); go_simp; first | done | with_reducible rfl)
                      try simp only [Act.put, List.setIfInBounds_toArray, List.set_cons_zero, List.set_cons_succ]
                      refine' Reg.wpG_take (i := 16) (oi := { dst := some 116, op := Op.indexAddr 50 (Operand.tmp 109) (Operand.tmp 115), type := 0, pos := "law.go:171", after := #[{ on := 9, ground := Ground.data }, { on := 15, ground := Ground.data }, { on := 1, ground := Ground.guard }], guard := some (1, false) }) (v := _) [17, 18, 19, 20, 21] [] rfl rfl (by kernel_rfl) (by kernel_rfl) (by kernel_rfl) (by kernel_rfl) (by kernel_rfl) (by kernel_rfl) (by kernel_rfl) (fun _ _ _ h => h) (Or.inl ⟨by rfl, Or.inl ?_⟩) ?_
                      rotate_left
                      · (intro w' kk ss; have u0 := CV.out _ (HA.out.trans (hr0.trans kk)); have u1 := C0.out _ (HA.out.trans (hr0.trans kk)); have u2 := CH.out _ (HA.out.trans (hr0.trans kk)); go_simp; first | done | with_reducible rfl)
                      try simp only [Act.put, List.setIfInBounds_toArray, List.set_cons_zero, List.set_cons_succ]
                      refine' Reg.wpG_take (i := 17) (oi := { dst := some 117, op := Op.fieldAddr 49 (Operand.tmp 116) 1, type := 0, pos := "law.go:171", after := #[{ on := 16, ground := Ground.data }, { on := 1, ground := Ground.guard }], guard := some (1, false) }) (v := _) [18, 19, 20, 21] [] rfl rfl (by kernel_rfl) (by kernel_rfl) (by kernel_rfl) (by kernel_rfl) (by kernel_rfl) (by kernel_rfl) (by kernel_rfl) (fun _ _ _ h => h) (Or.inl ⟨by rfl, Or.inl ?_⟩) ?_
                      rotate_left
                      · (intro w' kk ss; have u0 := CV.out _ (HA.out.trans (hr0.trans kk)); have u1 := C0.out _ (HA.out.trans (hr0.trans kk)); have u2 := CH.out _ (HA.out.trans (hr0.trans kk)); go_simp; first | done | with_reducible rfl)
                      try simp only [Act.put, List.setIfInBounds_toArray, List.set_cons_zero, List.set_cons_succ]
                      refine' Reg.wpG_take (i := 18) (oi := { dst := some 118, op := Op.load 2 (Operand.tmp 117), type := 2, pos := "law.go:171", after := #[{ on := 17, ground := Ground.data }, { on := 1, ground := Ground.guard }], guard := some (1, false) }) (v := _) [19, 20, 21] [] rfl rfl (by kernel_rfl) (by kernel_rfl) (by kernel_rfl) (by kernel_rfl) (by kernel_rfl) (by kernel_rfl) (by kernel_rfl) (fun _ _ _ h => h) (Or.inl ⟨by rfl, Or.inl ?_⟩) ?_
                      rotate_left
                      · (intro w' kk ss; have u0 := CV.out _ (HA.out.trans (hr0.trans kk)); have u1 := C0.out _ (HA.out.trans (hr0.trans kk)); have u2 := CH.out _ (HA.out.trans (hr0.trans kk)); go_simp; first | done | with_reducible rfl)
                      try simp only [Act.put, List.setIfInBounds_toArray, List.set_cons_zero, List.set_cons_succ]
                      refine' Reg.wpG_take (i := 19) (oi := { dst := some 119, op := Op.binOp BinOp.eql 2 (Operand.tmp 105) (Operand.tmp 118) 2, type := 4, pos := "law.go:171", after := #[{ on := 5, ground := Ground.data }, { on := 18, ground := Ground.data }, { on := 1, ground := Ground.guard }], guard := some (1, false) }) (v := _) [20, 21] [] rfl rfl (by kernel_rfl) (by kernel_rfl) (by kernel_rfl) (by kernel_rfl) (by kernel_rfl) (by kernel_rfl) (by kernel_rfl) (fun _ _ _ h => h) (Or.inl ⟨by rfl, Or.inl ?_⟩) ?_
                      rotate_left
                      · (intro w' kk ss; have u0 := CV.out _ (HA.out.trans (hr0.trans kk)); have u1 := C0.out _ (HA.out.trans (hr0.trans kk)); have u2 := CH.out _ (HA.out.trans (hr0.trans kk)); go_simp; first | done | with_reducible rfl)
                      try simp only [Act.put, List.setIfInBounds_toArray, List.set_cons_zero, List.set_cons_succ]
                      refine' Reg.wpG_take (i := 20) (oi := { dst := some 120, op := Op.pick (Operand.tmp 101) (Operand.const (Value.bool true)) (Operand.tmp 119), type := 4, pos := "law.go:171", after := #[{ on := 1, ground := Ground.data }, { on := 19, ground := Ground.data }], guard := none }) (v := _) [21] [] rfl rfl (by kernel_rfl) (by kernel_rfl) (by kernel_rfl) (by kernel_rfl) (by kernel_rfl) (by kernel_rfl) (by kernel_rfl) (fun _ _ _ h => h) (Or.inl ⟨by rfl, Or.inl ?_⟩) ?_
                      rotate_left
                      · (intro w' kk ss; have u0 := CV.out _ (HA.out.trans (hr0.trans kk)); have u1 := C0.out _ (HA.out.trans (hr0.trans kk)); have u2 := CH.out _ (HA.out.trans (hr0.trans kk)); go_simp; first | done | with_reducible rfl)
                      try simp only [Act.put, List.setIfInBounds_toArray, List.set_cons_zero, List.set_cons_succ]
                      refine' Reg.wpG_take (i := 21) (oi := { dst := some 12, op := Op.assign (Operand.tmp 120), type := 4, pos := "law.go:171", after := #[{ on := 20, ground := Ground.data }, { on := 1, ground := Ground.chain }, { on := 0, ground := Ground.phase }, { on := 1, ground := Ground.phase }, { on := 2, ground := Ground.phase }, { on := 3, ground := Ground.phase }, { on := 4, ground := Ground.phase }, { on := 5, ground := Ground.phase }, { on := 6, ground := Ground.phase }, { on := 7, ground := Ground.phase }, { on := 8, ground := Ground.phase }, { on := 9, ground := Ground.phase }, { on := 10, ground := Ground.phase }, { on := 11, ground := Ground.phase }, { on := 12, ground := Ground.phase }, { on := 13, ground := Ground.phase }, { on := 14, ground := Ground.phase }, { on := 15, ground := Ground.phase }, { on := 16, ground := Ground.phase }, { on := 17, ground := Ground.phase }, { on := 18, ground := Ground.phase }, { on := 19, ground := Ground.phase }, { on := 20, ground := Ground.phase }], guard := none }) (v := _) [] [] rfl rfl (by kernel_rfl) (by kernel_rfl) (by kernel_rfl) (by kernel_rfl) (by kernel_rfl) (by kernel_rfl) (by kernel_rfl) (fun _ _ _ h => h) (Or.inl ⟨by rfl, Or.inl ?_⟩) ?_
                      rotate_left
                      · (intro w' kk ss; have u0 := CV.out _ (HA.out.trans (hr0.trans kk)); have u1 := C0.out _ (HA.out.trans (hr0.trans kk)); have u2 := CH.out _ (HA.out.trans (hr0.trans kk)); go_simp; first | done | with_reducible rfl)
                      try simp only [Act.put, List.setIfInBounds_toArray, List.set_cons_zero, List.set_cons_succ]
                      refine Reg.wpG_done (by kernel_rfl) (fun wb ke se => ?_) _
                      refine NoPanic.normal ?_
                      have hr0 := hr0.trans ke
                      clear ke
                      have HBB := Lib.hid hr0
                      clear hr0
                      go_wp2
                      go_roundw
                      case rel => exact ⟨q + 1, by go_num, by omega, by rw [N1.out]; simp, by rw [N2.out]; simp [ce], Lib.hid (HV.out.trans (HA.out.trans HBB.out))⟩
                      case measure => simp [intOf]; omega
                | false =>
                  by_cases cl1 : y = el
                  all_goals
                    go_wp2
                    have hr0 : Since wr wr.drew := Since.drew (Since.refl wr)
                    refine wp_region_noPanic ?_
                    refine Reg.wp_region_G (S := fun _ => True) (fun j => [].contains j) (by kernel_rfl) trivial ?_
                    refine' Reg.wpG_take (i := 0) (oi := { dst := some 85, op := Op.move (Operand.tmp 11), type := 4, pos := "law.go:170", after := #[], guard := none }) (v := _) [1, 2, 3, 4, 5, 6, 7, 8, 9, 10, 11, 12, 13, 14, 15] [] rfl rfl (by kernel_rfl) (by kernel_rfl) (by kernel_rfl) (by kernel_rfl) (by kernel_rfl) (by kernel_rfl) (by kernel_rfl) (fun _ _ _ h => h) (Or.inl ⟨by rfl, Or.inl ?_⟩) ?_
                    rotate_left
                    · (intro w' kk ss; have u0 := CV.out _ (hr0.trans kk); have u1 := C0.out _ (hr0.trans kk); have u2 := CL.out _ (hr0.trans kk); go_simp; first | done | with_reducible rfl)
                    try simp only [Act.put, List.setIfInBounds_toArray, List.set_cons_zero, List.set_cons_succ]
                    refine' Reg.wpG_take (i := 1) (oi := { dst := some 86, op := Op.move (Operand.tmp 85), type := 4, pos := "law.go:170", after := #[{ on := 0, ground := Ground.data }], guard := none }) (v := _) [2, 3, 4, 5, 6, 7, 8, 9, 10, 11, 12, 13, 14, 15] [] rfl rfl (by kernel_rfl) (by kernel_rfl) (by kernel_rfl) (by kernel_rfl) (by kernel_rfl) (by kernel_rfl) (by kernel_rfl) (fun _ _ _ h => h) (Or.inl ⟨by rfl, Or.inl ?_⟩) ?_
                    rotate_left
                    · (intro w' kk ss; have u0 := CV.out _ (hr0.trans kk); have u1 := C0.out _ (hr0.trans kk); have u2 := CL.out _ (hr0.trans kk); go_simp; first | done | with_reducible rfl)
                    try simp only [Act.put, List.setIfInBounds_toArray, List.set_cons_zero, List.set_cons_succ]
                    refine' Reg.wpG_take (i := 2) (oi := { dst := some 87, op := Op.move (Operand.tmp 14), type := 23, pos := "law.go:170", after := #[{ on := 1, ground := Ground.guard }], guard := some (1, false) }) (v := _) [4, 5, 13, 14, 15] [] rfl rfl (by kernel_rfl) (by kernel_rfl) (by kernel_rfl) (by kernel_rfl) (by kernel_rfl) (by kernel_rfl) (by kernel_rfl) (fun _ _ _ h => h) (Or.inl ⟨by rfl, Or.inl ?_⟩) ?_
                    rotate_left
                    · (intro w' kk ss; have u0 := CV.out _ (hr0.trans kk); have u1 := C0.out _ (hr0.trans kk); have u2 := CL.out _ (hr0.trans kk); go_simp; first | done | with_reducible rfl)
                    try simp only [Act.put, List.setIfInBounds_toArray, List.set_cons_zero, List.set_cons_succ]
                    refine' Reg.wpG_take (i := 3) (oi := { dst := some 88, op := Op.move (Operand.tmp 10), type := 3, pos := "law.go:170", after := #[{ on := 1, ground := Ground.guard }], guard := some (1, false) }) (v := _) [4, 5, 13, 14, 15] [] rfl rfl (by kernel_rfl) (by kernel_rfl) (by kernel_rfl) (by kernel_rfl) (by kernel_rfl) (by kernel_rfl) (by kernel_rfl) (fun _ _ _ h => h) (Or.inl ⟨by rfl, Or.inl ?_⟩) ?_
                    rotate_left
                    · (intro w' kk ss; have u0 := CV.out _ (hr0.trans kk); have u1 := C0.out _ (hr0.trans kk); have u2 := CL.out _ (hr0.trans kk); go_simp; first | done | with_reducible rfl)
                    try simp only [Act.put, List.setIfInBounds_toArray, List.set_cons_zero, List.set_cons_succ]
                    refine' Reg.wpG_take (i := 4) (oi := { dst := some 89, op := Op.indexAddr 23 (Operand.tmp 87) (Operand.tmp 88), type := 0, pos := "law.go:170", after := #[{ on := 2, ground := Ground.data }, { on := 3, ground := Ground.data }, { on := 1, ground := Ground.guard }], guard := some (1, false) }) (v := _) [5, 13, 14, 15] [] rfl rfl (by kernel_rfl) (by kernel_rfl) (by kernel_rfl) (by kernel_rfl) (by kernel_rfl) (by kernel_rfl) (by kernel_rfl) (fun _ _ _ h => h) (Or.inl ⟨by rfl, Or.inl ?_⟩) ?_
                    rotate_left
                    · (intro w' kk ss; have u0 := CV.out _ (hr0.trans kk); have u1 := C0.out _ (hr0.trans kk); have u2 := CL.out _ (hr0.trans kk); go_simp; first | done | with_reducible rfl)
                    try simp only [Act.put, List.setIfInBounds_toArray, List.set_cons_zero, List.set_cons_succ]
                    refine' Reg.wpG_take (i := 5) (oi := { dst := some 90, op := Op.load 2 (Operand.tmp 89), type := 2, pos := "law.go:170", after := #[{ on := 4, ground := Ground.data }, { on := 1, ground := Ground.guard }], guard := some (1, false) }) (v := _) [13, 14, 15] [] rfl rfl (by kernel_rfl) (by kernel_rfl) (by kernel_rfl) (by kernel_rfl) (by kernel_rfl) (by kernel_rfl) (by kernel_rfl) (fun _ _ _ h => h) (Or.inl ⟨by rfl, Or.inl ?_⟩) ?_
                    rotate_left
                    · (intro w' kk ss; have u0 := CV.out _ (hr0.trans kk); have u1 := C0.out _ (hr0.trans kk); have u2 := CL.out _ (hr0.trans kk); go_simp; first | done | with_reducible rfl)
                    try simp only [Act.put, List.setIfInBounds_toArray, List.set_cons_zero, List.set_cons_succ]
                    refine' Reg.wpG_take (i := 6) (oi := { dst := some 91, op := Op.move (Operand.tmp 7), type := 30, pos := "law.go:170", after := #[{ on := 1, ground := Ground.guard }], guard := some (1, false) }) (v := _) [8, 9, 10, 11, 12, 13, 14, 15] [] rfl rfl (by kernel_rfl) (by kernel_rfl) (by kernel_rfl) (by kernel_rfl) (by kernel_rfl) (by kernel_rfl) (by kernel_rfl) (fun _ _ _ h => h) (Or.inl ⟨by rfl, Or.inl ?_⟩) ?_
                    rotate_left
                    · (intro w' kk ss; have u0 := CV.out _ (hr0.trans kk); have u1 := C0.out _ (hr0.trans kk); have u2 := CL.out _ (hr0.trans kk); go_simp; first | done | with_reducible rfl)
                    try simp only [Act.put, List.setIfInBounds_toArray, List.set_cons_zero, List.set_cons_succ]
                    refine' Reg.wpG_take (i := 7) (oi := { dst := some 92, op := Op.move (Operand.tmp 10), type := 3, pos := "law.go:170", after := #[{ on := 1, ground := Ground.guard }], guard := some (1, false) }) (v := _) [8, 9, 10, 11, 12, 13, 14, 15] [] rfl rfl (by kernel_rfl) (by kernel_rfl) (by kernel_rfl) (by kernel_rfl) (by kernel_rfl) (by kernel_rfl) (by kernel_rfl) (fun _ _ _ h => h) (Or.inl ⟨by rfl, Or.inl ?_⟩) ?_
                    rotate_left
                    · (intro w' kk ss; have u0 := CV.out _ (hr0.trans kk); have u1 := C0.out _ (hr0.trans kk); have u2 := CL.out _ (hr0.trans kk); go_simp; first | done | with_reducible rfl)
                    try simp only [Act.put, List.setIfInBounds_toArray, List.set_cons_zero, List.set_cons_succ]
                    refine' Reg.wpG_take (i := 8) (oi := { dst := some 93, op := Op.indexAddr 30 (Operand.tmp 91) (Operand.tmp 92), type := 0, pos := "law.go:170", after := #[{ on := 6, ground := Ground.data }, { on := 7, ground := Ground.data }, { on := 1, ground := Ground.guard }], guard := some (1, false) }) (v := _) [9, 10, 11, 12, 13, 14, 15] [] rfl rfl (by kernel_rfl) (by kernel_rfl) (by kernel_rfl) (by kernel_rfl) (by kernel_rfl) (by kernel_rfl) (by kernel_rfl) (fun _ _ _ h => h) (Or.inl ⟨by rfl, Or.inl ?_⟩) ?_
                    rotate_left
                    · (intro w' kk ss; have u0 := CV.out _ (hr0.trans kk); have u1 := C0.out _ (hr0.trans kk); have u2 := CL.out _ (hr0.trans kk); go_simp; first | done | with_reducible rfl)
                    try simp only [Act.put, List.setIfInBounds_toArray, List.set_cons_zero, List.set_cons_succ]
                    refine' Reg.wpG_take (i := 9) (oi := { dst := some 94, op := Op.load 50 (Operand.tmp 93), type := 50, pos := "law.go:170", after := #[{ on := 8, ground := Ground.data }, { on := 1, ground := Ground.guard }], guard := some (1, false) }) (v := _) [10, 11, 12, 13, 14, 15] [] rfl rfl (by kernel_rfl) (by kernel_rfl) (by kernel_rfl) (by kernel_rfl) (by kernel_rfl) (by kernel_rfl) (by kernel_rfl) (fun _ _ _ h => h) (Or.inl ⟨by rfl, Or.inl ?_⟩) ?_
                    rotate_left
                    · (intro w' kk ss; have u0 := CV.out _ (hr0.trans kk); have u1 := C0.out _ (hr0.trans kk); have u2 := CL.out _ (hr0.trans kk); go_simp; first | done | with_reducible rfl)
                    try simp only [Act.put, List.setIfInBounds_toArray, List.set_cons_zero, List.set_cons_succ]
                    refine' Reg.wpG_take (i := 10) (oi := { dst := some 95, op := Op.indexAddr 50 (Operand.tmp 94) (Operand.const (Value.int IntKind.i64 0)), type := 0, pos := "law.go:170", after := #[{ on := 9, ground := Ground.data }, { on := 1, ground := Ground.guard }], guard := some (1, false) }) (v := _) [11, 12, 13, 14, 15] [] rfl rfl (by kernel_rfl) (by kernel_rfl) (by kernel_rfl) (by kernel_rfl) (by kernel_rfl) (by kernel_rfl) (by kernel_rfl) (fun _ _ _ h => h) (Or.inl ⟨by rfl, Or.inl ?_⟩) ?_
                    rotate_left
                    · (intro w' kk ss; have u0 := CV.out _ (hr0.trans kk); have u1 := C0.out _ (hr0.trans kk); have u2 := CL.out _ (hr0.trans kk); go_simp; first | done | with_reducible rfl)
                    try simp only [Act.put, List.setIfInBounds_toArray, List.set_cons_zero, List.set_cons_succ]
                    refine' Reg.wpG_take (i := 11) (oi := { dst := some 96, op := Op.fieldAddr 49 (Operand.tmp 95) 0, type := 0, pos := "law.go:170", after := #[{ on := 10, ground := Ground.data }, { on := 1, ground := Ground.guard }], guard := some (1, false) }) (v := _) [12, 13, 14, 15] [] rfl rfl (by kernel_rfl) (by kernel_rfl) (by kernel_rfl) (by kernel_rfl) (by kernel_rfl) (by kernel_rfl) (by kernel_rfl) (fun _ _ _ h => h) (Or.inl ⟨by rfl, Or.inl ?_⟩) ?_
                    rotate_left
                    · (intro w' kk ss; have u0 := CV.out _ (hr0.trans kk); have u1 := C0.out _ (hr0.trans kk); have u2 := CL.out _ (hr0.trans kk); go_simp; first | done | with_reducible rfl)
                    try simp only [Act.put, List.setIfInBounds_toArray, List.set_cons_zero, List.set_cons_succ]
                    refine' Reg.wpG_take (i := 12) (oi := { dst := some 97, op := Op.load 2 (Operand.tmp 96), type := 2, pos := "law.go:170", after := #[{ on := 11, ground := Ground.data }, { on := 1, ground := Ground.guard }], guard := some (1, false) }) (v := _) [13, 14, 15] [] rfl rfl (by kernel_rfl) (by kernel_rfl) (by kernel_rfl) (by kernel_rfl) (by kernel_rfl) (by kernel_rfl) (by kernel_rfl) (fun _ _ _ h => h) (Or.inl ⟨by rfl, Or.inl ?_⟩) ?_
                    rotate_left
                    · (intro w' kk ss; have u0 := CV.out _ (hr0.trans kk); have u1 := C0.out _ (hr0.trans kk); have u2 := CL.out _ (hr0.trans kk); go_simp; first | done | with_reducible rfl)
                    try simp only [Act.put, List.setIfInBounds_toArray, List.set_cons_zero, List.set_cons_succ]
                    refine' Reg.wpG_take (i := 13) (oi := { dst := some 98, op := Op.binOp BinOp.eql 2 (Operand.tmp 90) (Operand.tmp 97) 2, type := 4, pos := "law.go:170", after := #[{ on := 5, ground := Ground.data }, { on := 12, ground := Ground.data }, { on := 1, ground := Ground.guard }], guard := some (1, false) }) (v := _) [14, 15] [] rfl rfl (by kernel_rfl) (by kernel_rfl) (by kernel_rfl) (by kernel_rfl) (by kernel_rfl) (by kernel_rfl) (by kernel_rfl) (fun _ _ _ h => h) (Or.inl ⟨by rfl, Or.inl ?_⟩) ?_
                    rotate_left
                    · (intro w' kk ss; have u0 := CV.out _ (hr0.trans kk); have u1 := C0.out _ (hr0.trans kk); have u2 := CL.out _ (hr0.trans kk); go_simp; first | done | with_reducible rfl)
                    try simp only [Act.put, List.setIfInBounds_toArray, List.set_cons_zero, List.set_cons_succ]
                    refine' Reg.wpG_take (i := 14) (oi := { dst := some 99, op := Op.pick (Operand.tmp 86) (Operand.const (Value.bool true)) (Operand.tmp 98), type := 4, pos := "law.go:170", after := #[{ on := 1, ground := Ground.data }, { on := 13, ground := Ground.data }], guard := none }) (v := _) [15] [] rfl rfl (by kernel_rfl) (by kernel_rfl) (by kernel_rfl) (by kernel_rfl) (by kernel_rfl) (by kernel_rfl) (by kernel_rfl) (fun _ _ _ h => h) (Or.inl ⟨by rfl, Or.inl ?_⟩) ?_
                    rotate_left
                    · (intro w' kk ss; have u0 := CV.out _ (hr0.trans kk); have u1 := C0.out _ (hr0.trans kk); have u2 := CL.out _ (hr0.trans kk); go_simp; first | done | with_reducible rfl)
                    try simp only [Act.put, List.setIfInBounds_toArray, List.set_cons_zero, List.set_cons_succ]
                    refine' Reg.wpG_take (i := 15) (oi := { dst := some 11, op := Op.assign (Operand.tmp 99), type := 4, pos := "law.go:170", after := #[{ on := 14, ground := Ground.data }, { on := 1, ground := Ground.chain }, { on := 0, ground := Ground.phase }, { on := 1, ground := Ground.phase }, { on := 2, ground := Ground.phase }, { on := 3, ground := Ground.phase }, { on := 4, ground := Ground.phase }, { on := 5, ground := Ground.phase }, { on := 6, ground := Ground.phase }, { on := 7, ground := Ground.phase }, { on := 8, ground := Ground.phase }, { on := 9, ground := Ground.phase }, { on := 10, ground := Ground.phase }, { on := 11, ground := Ground.phase }, { on := 12, ground := Ground.phase }, { on := 13, ground := Ground.phase }, { on := 14, ground := Ground.phase }], guard := none }) (v := _) [] [] rfl rfl (by kernel_rfl) (by kernel_rfl) (by kernel_rfl) (by kernel_rfl) (by kernel_rfl) (by kernel_rfl) (by kernel_rfl) (fun _ _ _ h => h) (Or.inl ⟨by rfl, Or.inl ?_⟩) ?_
                    rotate_left
                    · (intro w' kk ss; have u0 := CV.out _ (hr0.trans kk); have u1 := C0.out _ (hr0.trans kk); have u2 := CL.out _ (hr0.trans kk); go_simp; first | done | with_reducible rfl)
                    try simp only [Act.put, List.setIfInBounds_toArray, List.set_cons_zero, List.set_cons_succ]
                    refine Reg.wpG_done (by kernel_rfl) (fun wa ke se => ?_) _
                    refine NoPanic.normal ?_
                    have hr0 := hr0.trans ke
                    clear ke
                    have HA := Lib.hid hr0
                    clear hr0
                    cases f2
                    rotate_left
                    · go_wp2
                      have hr0 : Since wa wa.drew := Since.drew (Since.refl wa)
                      refine wp_region_noPanic ?_
                      refine Reg.wp_region_G (S := fun _ => True) (fun j => [].contains j) (by kernel_rfl) trivial ?_
                      refine' Reg.wpG_take (i := 0) (oi := { dst := some 100, op := Op.move (Operand.tmp 12), type := 4, pos := "law.go:171", after := #[], guard := none }) (v := _) [1, 2, 3, 4, 5, 6, 7, 8, 9, 10, 11, 12, 13, 14, 15, 16, 17, 18, 19, 20, 21] [] rfl rfl (by kernel_rfl) (by kernel_rfl) (by kernel_rfl) (by kernel_rfl) (by kernel_rfl) (by kernel_rfl) (by kernel_rfl) (fun _ _ _ h => h) (Or.inl ⟨by rfl, Or.inl ?_⟩) ?_
                      rotate_left
                      · (intro w' kk ss; have u0 := CV.out _ (HA.out.trans (hr0.trans kk)); have u1 := C0.out _ (HA.out.trans (hr0.trans kk)); have u2 := CH.out _ (HA.out.trans (hr0.trans kk)); go_simp; first | done | with_reducible rfl)
                      try simp only [Act.put, List.setIfInBounds_toArray, List.set_cons_zero, List.set_cons_succ]
                      refine' Reg.wpG_take (i := 1) (oi := { dst := some 101, op := Op.move (Operand.tmp 100), type := 4, pos := "law.go:171", after := #[{ on := 0, ground := Ground.data }], guard := none }) (v := _) [2, 3, 4, 5, 6, 7, 8, 9, 10, 11, 12, 13, 14, 15, 16, 17, 18, 19, 20, 21] [] rfl rfl (by kernel_rfl) (by kernel_rfl) (by kernel_rfl) (by kernel_rfl) (by kernel_rfl) (by kernel_rfl) (by kernel_rfl) (fun _ _ _ h => h) (Or.inl ⟨by rfl, Or.inl ?_⟩) ?_
                      rotate_left
                      · (intro w' kk ss; have u0 := CV.out _ (HA.out.trans (hr0.trans kk)); have u1 := C0.out _ (HA.out.trans (hr0.trans kk)); have u2 := CH.out _ (HA.out.trans (hr0.trans kk)); go_simp; first | done | with_reducible rfl)
                      try simp only [Act.put, List.setIfInBounds_toArray, List.set_cons_zero, List.set_cons_succ]
                      refine Reg.wpG_take (i := 2) (oi := { dst := some 102, op := Op.move (Operand.tmp 14), type := 23, pos := "law.go:171", after := #[{ on := 1, ground := Ground.guard }], guard := some (1, false) }) (v := undef) [4, 5, 19, 20, 21] [] rfl rfl (by kernel_rfl) (by kernel_rfl) (by kernel_rfl) (by kernel_rfl) (by kernel_rfl) (by kernel_rfl) (by kernel_rfl) (fun _ _ _ h => h) (Or.inr ⟨by rfl, rfl⟩) ?_
                      try simp only [Act.put, List.setIfInBounds_toArray, List.set_cons_zero, List.set_cons_succ]
                      refine Reg.wpG_take (i := 3) (oi := { dst := some 103, op := Op.move (Operand.tmp 10), type := 3, pos := "law.go:171", after := #[{ on := 1, ground := Ground.guard }], guard := some (1, false) }) (v := undef) [4, 5, 19, 20, 21] [] rfl rfl (by kernel_rfl) (by kernel_rfl) (by kernel_rfl) (by kernel_rfl) (by kernel_rfl) (by kernel_rfl) (by kernel_rfl) (fun _ _ _ h => h) (Or.inr ⟨by rfl, rfl⟩) ?_
                      try simp only [Act.put, List.setIfInBounds_toArray, List.set_cons_zero, List.set_cons_succ]
                      refine Reg.wpG_take (i := 4) (oi := { dst := some 104, op := Op.indexAddr 23 (Operand.tmp 102) (Operand.tmp 103), type := 0, pos := "law.go:171", after := #[{ on := 2, ground := Ground.data }, { on := 3, ground := Ground.data }, { on := 1, ground := Ground.guard }], guard := some (1, false) }) (v := undef) [5, 19, 20, 21] [] rfl rfl (by kernel_rfl) (by kernel_rfl) (by kernel_rfl) (by kernel_rfl) (by kernel_rfl) (by kernel_rfl) (by kernel_rfl) (fun _ _ _ h => h) (Or.inr ⟨by rfl, rfl⟩) ?_
                      try simp only [Act.put, List.setIfInBounds_toArray, List.set_cons_zero, List.set_cons_succ]
                      refine Reg.wpG_take (i := 5) (oi := { dst := some 105, op := Op.load 2 (Operand.tmp 104), type := 2, pos := "law.go:171", after := #[{ on := 4, ground := Ground.data }, { on := 1, ground := Ground.guard }], guard := some (1, false) }) (v := undef) [19, 20, 21] [] rfl rfl (by kernel_rfl) (by kernel_rfl) (by kernel_rfl) (by kernel_rfl) (by kernel_rfl) (by kernel_rfl) (by kernel_rfl) (fun _ _ _ h => h) (Or.inr ⟨by rfl, rfl⟩) ?_
                      try simp only [Act.put, List.setIfInBounds_toArray, List.set_cons_zero, List.set_cons_succ]
                      refine Reg.wpG_take (i := 6) (oi := { dst := some 106, op := Op.move (Operand.tmp 7), type := 30, pos := "law.go:171", after := #[{ on := 1, ground := Ground.guard }], guard := some (1, false) }) (v := undef) [8, 9, 16, 17, 18, 19, 20, 21] [] rfl rfl (by kernel_rfl) (by kernel_rfl) (by kernel_rfl) (by kernel_rfl) (by kernel_rfl) (by kernel_rfl) (by kernel_rfl) (fun _ _ _ h => h) (Or.inr ⟨by rfl, rfl⟩) ?_
                      try simp only [Act.put, List.setIfInBounds_toArray, List.set_cons_zero, List.set_cons_succ]
                      refine Reg.wpG_take (i := 7) (oi := { dst := some 107, op := Op.move (Operand.tmp 10), type := 3, pos := "law.go:171", after := #[{ on := 1, ground := Ground.guard }], guard := some (1, false) }) (v := undef) [8, 9, 16, 17, 18, 19, 20, 21] [] rfl rfl (by kernel_rfl) (by kernel_rfl) (by kernel_rfl) (by kernel_rfl) (by kernel_rfl) (by kernel_rfl) (by kernel_rfl) (fun _ _ _ h => h) (Or.inr ⟨by rfl, rfl⟩) ?_
                      try simp only [Act.put, List.setIfInBounds_toArray, List.set_cons_zero, List.set_cons_succ]
                      refine Reg.wpG_take (i := 8) (oi := { dst := some 108, op := Op.indexAddr 30 (Operand.tmp 106) (Operand.tmp 107), type := 0, pos := "law.go:171", after := #[{ on := 6, ground := Ground.data }, { on := 7, ground := Ground.data }, { on := 1, ground := Ground.guard }], guard := some (1, false) }) (v := undef) [9, 16, 17, 18, 19, 20, 21] [] rfl rfl (by kernel_rfl) (by kernel_rfl) (by kernel_rfl) (by kernel_rfl) (by kernel_rfl) (by kernel_rfl) (by kernel_rfl) (fun _ _ _ h => h) (Or.inr ⟨by rfl, rfl⟩) ?_
                      try simp only [Act.put, List.setIfInBounds_toArray, List.set_cons_zero, List.set_cons_succ]
                      refine Reg.wpG_take (i := 9) (oi := { dst := some 109, op := Op.load 50 (Operand.tmp 108), type := 50, pos := "law.go:171", after := #[{ on := 8, ground := Ground.data }, { on := 1, ground := Ground.guard }], guard := some (1, false) }) (v := undef) [16, 17, 18, 19, 20, 21] [] rfl rfl (by kernel_rfl) (by kernel_rfl) (by kernel_rfl) (by kernel_rfl) (by kernel_rfl) (by kernel_rfl) (by kernel_rfl) (fun _ _ _ h => h) (Or.inr ⟨by rfl, rfl⟩) ?_
                      try simp only [Act.put, List.setIfInBounds_toArray, List.set_cons_zero, List.set_cons_succ]
                      refine Reg.wpG_take (i := 10) (oi := { dst := some 110, op := Op.move (Operand.tmp 7), type := 30, pos := "law.go:171", after := #[{ on := 1, ground := Ground.guard }], guard := some (1, false) }) (v := undef) [12, 13, 14, 15, 16, 17, 18, 19, 20, 21] [] rfl rfl (by kernel_rfl) (by kernel_rfl) (by kernel_rfl) (by kernel_rfl) (by kernel_rfl) (by kernel_rfl) (by kernel_rfl) (fun _ _ _ h => h) (Or.inr ⟨by rfl, rfl⟩) ?_
                      try simp only [Act.put, List.setIfInBounds_toArray, List.set_cons_zero, List.set_cons_succ]
                      refine Reg.wpG_take (i := 11) (oi := { dst := some 111, op := Op.move (Operand.tmp 10), type := 3, pos := "law.go:171", after := #[{ on := 1, ground := Ground.guard }], guard := some (1, false) }) (v := undef) [12, 13, 14, 15, 16, 17, 18, 19, 20, 21] [] rfl rfl (by kernel_rfl) (by kernel_rfl) (by kernel_rfl) (by kernel_rfl) (by kernel_rfl) (by kernel_rfl) (by kernel_rfl) (fun _ _ _ h => h) (Or.inr ⟨by rfl, rfl⟩) ?_
                      try simp only [Act.put, List.setIfInBounds_toArray, List.set_cons_zero, List.set_cons_succ]
                      refine Reg.wpG_take (i := 12) (oi := { dst := some 112, op := Op.indexAddr 30 (Operand.tmp 110) (Operand.tmp 111), type := 0, pos := "law.go:171", after := #[{ on := 10, ground := Ground.data }, { on := 11, ground := Ground.data }, { on := 1, ground := Ground.guard }], guard := some (1, false) }) (v := undef) [13, 14, 15, 16, 17, 18, 19, 20, 21] [] rfl rfl (by kernel_rfl) (by kernel_rfl) (by kernel_rfl) (by kernel_rfl) (by kernel_rfl) (by kernel_rfl) (by kernel_rfl) (fun _ _ _ h => h) (Or.inr ⟨by rfl, rfl⟩) ?_
                      try simp only [Act.put, List.setIfInBounds_toArray, List.set_cons_zero, List.set_cons_succ]
                      refine Reg.wpG_take (i := 13) (oi := { dst := some 113, op := Op.load 50 (Operand.tmp 112), type := 50, pos := "law.go:171", after := #[{ on := 12, ground := Ground.data }, { on := 1, ground := Ground.guard }], guard := some (1, false) }) (v := undef) [14, 15, 16, 17, 18, 19, 20, 21] [] rfl rfl (by kernel_rfl) (by kernel_rfl) (by kernel_rfl) (by kernel_rfl) (by kernel_rfl) (by kernel_rfl) (by kernel_rfl) (fun _ _ _ h => h) (Or.inr ⟨by rfl, rfl⟩) ?_
                      try simp only [Act.put, List.setIfInBounds_toArray, List.set_cons_zero, List.set_cons_succ]
                      refine Reg.wpG_take (i := 14) (oi := { dst := some 114, op := Op.call { callee := Callee.builtin Builtin.len, args := #[Operand.tmp 113], argTypes := #[50] }, type := 3, pos := "law.go:171", after := #[{ on := 13, ground := Ground.data }, { on := 1, ground := Ground.guard }], guard := some (1, false) }) (v := undef) [15, 16, 17, 18, 19, 20, 21] [] rfl rfl (by kernel_rfl) (by kernel_rfl) (by kernel_rfl) (by kernel_rfl) (by kernel_rfl) (by kernel_rfl) (by kernel_rfl) (fun _ _ _ h => h) (Or.inr ⟨by rfl, rfl⟩) ?_
                      try simp only [Act.put, List.setIfInBounds_toArray, List.set_cons_zero, List.set_cons_succ]
                      refine Reg.wpG_take (i := 15) (oi := { dst := some 115, op := Op.binOp BinOp.sub 3 (Operand.tmp 114) (Operand.const (Value.int IntKind.i64 1)) 3, type := 3, pos := "law.go:171", after := #[{ on := 14, ground := Ground.data }, { on := 1, ground := Ground.guard }], guard := some (1, false) }) (v := undef) [16, 17, 18, 19, 20, 21] [] rfl rfl (by kernel_rfl) (by kernel_rfl) (by kernel_rfl) (by kernel_rfl) (by kernel_rfl) (by kernel_rfl) (by kernel_rfl) (fun _ _ _ h => h) (Or.inr ⟨by rfl, rfl⟩) ?_
                      try simp only [Act.put, List.setIfInBounds_toArray, List.set_cons_zero, List.set_cons_succ]
                      refine Reg.wpG_take (i := 16) (oi := { dst := some 116, op := Op.indexAddr 50 (Operand.tmp 109) (Operand.tmp 115), type := 0, pos := "law.go:171", after := #[{ on := 9, ground := Ground.data }, { on := 15, ground := Ground.data }, { on := 1, ground := Ground.guard }], guard := some (1, false) }) (v := undef) [17, 18, 19, 20, 21] [] rfl rfl (by kernel_rfl) (by kernel_rfl) (by kernel_rfl) (by kernel_rfl) (by kernel_rfl) (by kernel_rfl) (by kernel_rfl) (fun _ _ _ h => h) (Or.inr ⟨by rfl, rfl⟩) ?_
                      try simp only [Act.put, List.setIfInBounds_toArray, List.set_cons_zero, List.set_cons_succ]
                      refine Reg.wpG_take (i := 17) (oi := { dst := some 117, op := Op.fieldAddr 49 (Operand.tmp 116) 1, type := 0, pos := "law.go:171", after := #[{ on := 16, ground := Ground.data }, { on := 1, ground := Ground.guard }], guard := some (1, false) }) (v := undef) [18, 19, 20, 21] [] rfl rfl (by kernel_rfl) (by kernel_rfl) (by kernel_rfl) (by kernel_rfl) (by kernel_rfl) (by kernel_rfl) (by kernel_rfl) (fun _ _ _ h => h) (Or.inr ⟨by rfl, rfl⟩) ?_
                      try simp only [Act.put, List.setIfInBounds_toArray, List.set_cons_zero, List.set_cons_succ]
                      refine Reg.wpG_take (i := 18) (oi := { dst := some 118, op := Op.load 2 (Operand.tmp 117), type := 2, pos := "law.go:171", after := #[{ on := 17, ground := Ground.data }, { on := 1, ground := Ground.guard }], guard := some (1, false) }) (v := undef) [19, 20, 21] [] rfl rfl (by kernel_rfl) (by kernel_rfl) (by kernel_rfl) (by kernel_rfl) (by kernel_rfl) (by kernel_rfl) (by kernel_rfl) (fun _ _ _ h => h) (Or.inr ⟨by rfl, rfl⟩) ?_
                      try simp only [Act.put, List.setIfInBounds_toArray, List.set_cons_zero, List.set_cons_succ]
                      refine Reg.wpG_take (i := 19) (oi := { dst := some 119, op := Op.binOp BinOp.eql 2 (Operand.tmp 105) (Operand.tmp 118) 2, type := 4, pos := "law.go:171", after := #[{ on := 5, ground := Ground.data }, { on := 18, ground := Ground.data }, { on := 1, ground := Ground.guard }], guard := some (1, false) }) (v := undef) [20, 21] [] rfl rfl (by kernel_rfl) (by kernel_rfl) (by kernel_rfl) (by kernel_rfl) (by kernel_rfl) (by kernel_rfl) (by kernel_rfl) (fun _ _ _ h => h) (Or.inr ⟨by rfl, rfl⟩) ?_
                      try simp only [Act.put, List.setIfInBounds_toArray, List.set_cons_zero, List.set_cons_succ]
                      refine' Reg.wpG_take (i := 20) (oi := { dst := some 120, op := Op.pick (Operand.tmp 101) (Operand.const (Value.bool true)) (Operand.tmp 119), type := 4, pos := "law.go:171", after := #[{ on := 1, ground := Ground.data }, { on := 19, ground := Ground.data }], guard := none }) (v := _) [21] [] rfl rfl (by kernel_rfl) (by kernel_rfl) (by kernel_rfl) (by kernel_rfl) (by kernel_rfl) (by kernel_rfl) (by kernel_rfl) (fun _ _ _ h => h) (Or.inl ⟨by rfl, Or.inl ?_⟩) ?_
                      rotate_left
                      · (intro w' kk ss; have u0 := CV.out _ (HA.out.trans (hr0.trans kk)); have u1 := C0.out _ (HA.out.trans (hr0.trans kk)); have u2 := CH.out _ (HA.out.trans (hr0.trans kk)); go_simp; first | done | with_reducible rfl)
                      try simp only [Act.put, List.setIfInBounds_toArray, List.set_cons_zero, List.set_cons_succ]
                      refine' Reg.wpG_take (i := 21) (oi := { dst := some 12, op := Op.assign (Operand.tmp 120), type := 4, pos := "law.go:171", after := #[{ on := 20, ground := Ground.data }, { on := 1, ground := Ground.chain }, { on := 0, ground := Ground.phase }, { on := 1, ground := Ground.phase }, { on := 2, ground := Ground.phase }, { on := 3, ground := Ground.phase }, { on := 4, ground := Ground.phase }, { on := 5, ground := Ground.phase }, { on := 6, ground := Ground.phase }, { on := 7, ground := Ground.phase }, { on := 8, ground := Ground.phase }, { on := 9, ground := Ground.phase }, { on := 10, ground := Ground.phase }, { on := 11, ground := Ground.phase }, { on := 12, ground := Ground.phase }, { on := 13, ground := Ground.phase }, { on := 14, ground := Ground.phase }, { on := 15, ground := Ground.phase }, { on := 16, ground := Ground.phase }, { on := 17, ground := Ground.phase }, { on := 18, ground := Ground.phase }, { on := 19, ground := Ground.phase }, { on := 20, ground := Ground.phase }], guard := none }) (v := _) [] [] rfl rfl (by kernel_rfl) (by kernel_rfl) (by kernel_rfl) (by kernel_rfl) (by kernel_rfl) (by kernel_rfl) (by kernel_rfl) (fun _ _ _ h => h) (Or.inl ⟨by rfl, Or.inl ?_⟩) ?_
                      rotate_left
                      · (intro w' kk ss; have u0 := CV.out _ (HA.out.trans (hr0.trans kk)); have u1 := C0.out _ (HA.out.trans (hr0.trans kk)); have u2 := CH.out _ (HA.out.trans (hr0.trans kk)); go_simp; first | done | with_reducible rfl)
                      try simp only [Act.put, List.setIfInBounds_toArray, List.set_cons_zero, List.set_cons_succ]
                      refine Reg.wpG_done (by kernel_rfl) (fun wb ke se => ?_) _
                      refine NoPanic.normal ?_
                      have hr0 := hr0.trans ke
                      clear ke
                      have HBB := Lib.hid hr0
                      clear hr0
                      go_wp2
                      go_roundw
                      case rel => exact ⟨q + 1, by go_num, by omega, by rw [N1.out]; simp [cl1], by rw [N2.out]; simp, Lib.hid (HV.out.trans (HA.out.trans HBB.out))⟩
                      case measure => simp [intOf]; omega
                    · by_cases ce : y = eh
                      all_goals
                        go_wp2
                        have hr0 : Since wa wa.drew := Since.drew (Since.refl wa)
                        refine wp_region_noPanic ?_
                        refine Reg.wp_region_G (S := fun _ => True) (fun j => [].contains j) (by kernel_rfl) trivial ?_
                        refine' Reg.wpG_take (i := 0) (oi := { dst := some 100, op := Op.move (Operand.tmp 12), type := 4, pos := "law.go:171", after := #[], guard := none }) (v := _) [1, 2, 3, 4, 5, 6, 7, 8, 9, 10, 11, 12, 13, 14, 15, 16, 17, 18, 19, 20, 21] [] rfl rfl (by kernel_rfl) (by kernel_rfl) (by kernel_rfl) (by kernel_rfl) (by kernel_rfl) (by kernel_rfl) (by kernel_rfl) (fun _ _ _ h => h) (Or.inl ⟨by rfl, Or.inl ?_⟩) ?_
                        rotate_left
                        · (intro w' kk ss; have u0 := CV.out _ (HA.out.trans (hr0.trans kk)); have u1 := C0.out _ (HA.out.trans (hr0.trans kk)); have u2 := CH.out _ (HA.out.trans (hr0.trans kk)); go_simp; first | done | with_reducible rfl)
                        try simp only [Act.put, List.setIfInBounds_toArray, List.set_cons_zero, List.set_cons_succ]
                        refine' Reg.wpG_take (i := 1) (oi := { dst := some 101, op := Op.move (Operand.tmp 100), type := 4, pos := "law.go:171", after := #[{ on := 0, ground := Ground.data }], guard := none }) (v := _) [2, 3, 4, 5, 6, 7, 8, 9, 10, 11, 12, 13, 14, 15, 16, 17, 18, 19, 20, 21] [] rfl rfl (by kernel_rfl) (by kernel_rfl) (by kernel_rfl) (by kernel_rfl) (by kernel_rfl) (by kernel_rfl) (by kernel_rfl) (fun _ _ _ h => h) (Or.inl ⟨by rfl, Or.inl ?_⟩) ?_
                        rotate_left
                        · (intro w' kk ss; have u0 := CV.out _ (HA.out.trans (hr0.trans kk)); have u1 := C0.out _ (HA.out.trans (hr0.trans kk)); have u2 := CH.out _ (HA.out.trans (hr0.trans kk)); go_simp; first | done | with_reducible rfl)
                        try simp only [Act.put, List.setIfInBounds_toArray, List.set_cons_zero, List.set_cons_succ]
                        refine' Reg.wpG_take (i := 2) (oi := { dst := some 102, op := Op.move (Operand.tmp 14), type := 23, pos := "law.go:171", after := #[{ on := 1, ground := Ground.guard }], guard := some (1, false) }) (v := _) [4, 5, 19, 20, 21] [] rfl rfl (by kernel_rfl) (by kernel_rfl) (by kernel_rfl) (by kernel_rfl) (by kernel_rfl) (by kernel_rfl) (by kernel_rfl) (fun _ _ _ h => h) (Or.inl ⟨by rfl, Or.inl ?_⟩) ?_
                        rotate_left
                        · (intro w' kk ss; have u0 := CV.out _ (HA.out.trans (hr0.trans kk)); have u1 := C0.out _ (HA.out.trans (hr0.trans kk)); have u2 := CH.out _ (HA.out.trans (hr0.trans kk)); go_simp; first | done | with_reducible rfl)
                        try simp only [Act.put, List.setIfInBounds_toArray, List.set_cons_zero, List.set_cons_succ]
                        refine' Reg.wpG_take (i := 3) (oi := { dst := some 103, op := Op.move (Operand.tmp 10), type := 3, pos := "law.go:171", after := #[{ on := 1, ground := Ground.guard }], guard := some (1, false) }) (v := _) [4, 5, 19, 20, 21] [] rfl rfl (by kernel_rfl) (by kernel_rfl) (by kernel_rfl) (by kernel_rfl) (by kernel_rfl) (by kernel_rfl) (by kernel_rfl) (fun _ _ _ h => h) (Or.inl ⟨by rfl, Or.inl ?_⟩) ?_
                        rotate_left
                        · (intro w' kk ss; have u0 := CV.out _ (HA.out.trans (hr0.trans kk)); have u1 := C0.out _ (HA.out.trans (hr0.trans kk)); have u2 := CH.out _ (HA.out.trans (hr0.trans kk)); go_simp; first | done | with_reducible rfl)
                        try simp only [Act.put, List.setIfInBounds_toArray, List.set_cons_zero, List.set_cons_succ]
                        refine' Reg.wpG_take (i := 4) (oi := { dst := some 104, op := Op.indexAddr 23 (Operand.tmp 102) (Operand.tmp 103), type := 0, pos := "law.go:171", after := #[{ on := 2, ground := Ground.data }, { on := 3, ground := Ground.data }, { on := 1, ground := Ground.guard }], guard := some (1, false) }) (v := _) [5, 19, 20, 21] [] rfl rfl (by kernel_rfl) (by kernel_rfl) (by kernel_rfl) (by kernel_rfl) (by kernel_rfl) (by kernel_rfl) (by kernel_rfl) (fun _ _ _ h => h) (Or.inl ⟨by rfl, Or.inl ?_⟩) ?_
                        rotate_left
                        · (intro w' kk ss; have u0 := CV.out _ (HA.out.trans (hr0.trans kk)); have u1 := C0.out _ (HA.out.trans (hr0.trans kk)); have u2 := CH.out _ (HA.out.trans (hr0.trans kk)); go_simp; first | done | with_reducible rfl)
                        try simp only [Act.put, List.setIfInBounds_toArray, List.set_cons_zero, List.set_cons_succ]
                        refine' Reg.wpG_take (i := 5) (oi := { dst := some 105, op := Op.load 2 (Operand.tmp 104), type := 2, pos := "law.go:171", after := #[{ on := 4, ground := Ground.data }, { on := 1, ground := Ground.guard }], guard := some (1, false) }) (v := _) [19, 20, 21] [] rfl rfl (by kernel_rfl) (by kernel_rfl) (by kernel_rfl) (by kernel_rfl) (by kernel_rfl) (by kernel_rfl) (by kernel_rfl) (fun _ _ _ h => h) (Or.inl ⟨by rfl, Or.inl ?_⟩) ?_
                        rotate_left
                        · (intro w' kk ss; have u0 := CV.out _ (HA.out.trans (hr0.trans kk)); have u1 := C0.out _ (HA.out.trans (hr0.trans kk)); have u2 := CH.out _ (HA.out.trans (hr0.trans kk)); go_simp; first | done | with_reducible rfl)
                        try simp only [Act.put, List.setIfInBounds_toArray, List.set_cons_zero, List.set_cons_succ]
                        refine' Reg.wpG_take (i := 6) (oi := { dst := some 106, op := Op.move (Operand.tmp 7), type := 30, pos := "law.go:171", after := #[{ on := 1, ground := Ground.guard }], guard := some (1, false) }) (v := _) [8, 9, 16, 17, 18, 19, 20, 21] [] rfl rfl (by kernel_rfl) (by kernel_rfl) (by kernel_rfl) (by kernel_rfl) (by kernel_rfl) (by kernel_rfl) (by kernel_rfl) (fun _ _ _ h => h) (Or.inl ⟨by rfl, Or.inl ?_⟩) ?_
                        rotate_left
                        · (intro w' kk ss; have u0 := CV.out _ (HA.out.trans (hr0.trans kk)); have u1 := C0.out _ (HA.out.trans (hr0.trans kk)); have u2 := CH.out _ (HA.out.trans (hr0.trans kk)); go_simp; first | done | with_reducible rfl)
                        try simp only [Act.put, List.setIfInBounds_toArray, List.set_cons_zero, List.set_cons_succ]
                        refine' Reg.wpG_take (i := 7) (oi := { dst := some 107, op := Op.move (Operand.tmp 10), type := 3, pos := "law.go:171", after := #[{ on := 1, ground := Ground.guard }], guard := some (1, false) }) (v := _) [8, 9, 16, 17, 18, 19, 20, 21] [] rfl rfl (by kernel_rfl) (by kernel_rfl) (by kernel_rfl) (by kernel_rfl) (by kernel_rfl) (by kernel_rfl) (by kernel_rfl) (fun _ _ _ h => h) (Or.inl ⟨by rfl, Or.inl ?_⟩) ?_
                        rotate_left
                        · (intro w' kk ss; have u0 := CV.out _ (HA.out.trans (hr0.trans kk)); have u1 := C0.out _ (HA.out.trans (hr0.trans kk)); have u2 := CH.out _ (HA.out.trans (hr0.trans kk)); go_simp; first | done | with_reducible rfl)
                        try simp only [Act.put, List.setIfInBounds_toArray, List.set_cons_zero, List.set_cons_succ]
                        refine' Reg.wpG_take (i := 8) (oi := { dst := some 108, op := Op.indexAddr 30 (Operand.tmp 106) (Operand.tmp 107), type := 0, pos := "law.go:171", after := #[{ on := 6, ground := Ground.data }, { on := 7, ground := Ground.data }, { on := 1, ground := Ground.guard }], guard := some (1, false) }) (v := _) [9, 16, 17, 18, 19, 20, 21] [] rfl rfl (by kernel_rfl) (by kernel_rfl) (by kernel_rfl) (by kernel_rfl) (by kernel_rfl) (by kernel_rfl) (by kernel_rfl) (fun _ _ _ h => h) (Or.inl ⟨by rfl, Or.inl ?_⟩) ?_
                        rotate_left
                        · (intro w' kk ss; have u0 := CV.out _ (HA.out.trans (hr0.trans kk)); have u1 := C0.out _ (HA.out.trans (hr0.trans kk)); have u2 := CH.out _ (HA.out.trans (hr0.trans kk)); go_simp; first | done | with_reducible rfl)
                        try simp only [Act.put, List.setIfInBounds_toArray, List.set_cons_zero, List.set_cons_succ]
                        refine' Reg.wpG_take (i := 9) (oi := { dst := some 109, op := Op.load 50 (Operand.tmp 108), type := 50, pos := "law.go:171", after := #[{ on := 8, ground := Ground.data }, { on := 1, ground := Ground.guard }], guard := some (1, false) }) (v := _) [16, 17, 18, 19, 20, 21] [] rfl rfl (by kernel_rfl) (by kernel_rfl) (by kernel_rfl) (by kernel_rfl) (by kernel_rfl) (by kernel_rfl) (by kernel_rfl) (fun _ _ _ h => h) (Or.inl ⟨by rfl, Or.inl ?_⟩) ?_
                        rotate_left
                        · (intro w' kk ss; have u0 := CV.out _ (HA.out.trans (hr0.trans kk)); have u1 := C0.out _ (HA.out.trans (hr0.trans kk)); have u2 := CH.out _ (HA.out.trans (hr0.trans kk)); go_simp; first | done | with_reducible rfl)
                        try simp only [Act.put, List.setIfInBounds_toArray, List.set_cons_zero, List.set_cons_succ]
                        refine' Reg.wpG_take (i := 10) (oi := { dst := some 110, op := Op.move (Operand.tmp 7), type := 30, pos := "law.go:171", after := #[{ on := 1, ground := Ground.guard }], guard := some (1, false) }) (v := _) [12, 13, 14, 15, 16, 17, 18, 19, 20, 21] [] rfl rfl (by kernel_rfl) (by kernel_rfl) (by kernel_rfl) (by kernel_rfl) (by kernel_rfl) (by kernel_rfl) (by kernel_rfl) (fun _ _ _ h => h) (Or.inl ⟨by rfl, Or.inl ?_⟩) ?_
                        rotate_left
                        · (intro w' kk ss; have u0 := CV.out _ (HA.out.trans (hr0.trans kk)); have u1 := C0.out _ (HA.out.trans (hr0.trans kk)); have u2 := CH.out _ (HA.out.trans (hr0.trans kk)); go_simp; first | done | with_reducible rfl)
                        try simp only [Act.put, List.setIfInBounds_toArray, List.set_cons_zero, List.set_cons_succ]
                        refine' Reg.wpG_take (i := 11) (oi := { dst := some 111, op := Op.move (Operand.tmp 10), type := 3, pos := "law.go:171", after := #[{ on := 1, ground := Ground.guard }], guard := some (1, false) }) (v := _) [12, 13, 14, 15, 16, 17, 18, 19, 20, 21] [] rfl rfl (by kernel_rfl) (by kernel_rfl) (by kernel_rfl) (by kernel_rfl) (by kernel_rfl) (by kernel_rfl) (by kernel_rfl) (fun _ _ _ h => h) (Or.inl ⟨by rfl, Or.inl ?_⟩) ?_
                        rotate_left
                        · (intro w' kk ss; have u0 := CV.out _ (HA.out.trans (hr0.trans kk)); have u1 := C0.out _ (HA.out.trans (hr0.trans kk)); have u2 := CH.out _ (HA.out.trans (hr0.trans kk)); go_simp; first | done | with_reducible rfl)
                        try simp only [Act.put, List.setIfInBounds_toArray, List.set_cons_zero, List.set_cons_succ]
                        refine' Reg.wpG_take (i := 12) (oi := { dst := some 112, op := Op.indexAddr 30 (Operand.tmp 110) (Operand.tmp 111), type := 0, pos := "law.go:171", after := #[{ on := 10, ground := Ground.data }, { on := 11, ground := Ground.data }, { on := 1, ground := Ground.guard }], guard := some (1, false) }) (v := _) [13, 14, 15, 16, 17, 18, 19, 20, 21] [] rfl rfl (by kernel_rfl) (by kernel_rfl) (by kernel_rfl) (by kernel_rfl) (by kernel_rfl) (by kernel_rfl) (by kernel_rfl) (fun _ _ _ h => h) (Or.inl ⟨by rfl, Or.inl ?_⟩) ?_
                        rotate_left
                        · (intro w' kk ss; have u0 := CV.out _ (HA.out.trans (hr0.trans kk)); have u1 := C0.out _ (HA.out.trans (hr0.trans kk)); have u2 := CH.out _ (HA.out.trans (hr0.trans kk)); go_simp; first | done | with_reducible rfl)
                        try simp only [Act.put, List.setIfInBounds_toArray, List.set_cons_zero, List.set_cons_succ]
                        refine' Reg.wpG_take (i := 13) (oi := { dst := some 113, op := Op.load 50 (Operand.tmp 112), type := 50, pos := "law.go:171", after := #[{ on := 12, ground := Ground.data }, { on := 1, ground := Ground.guard }], guard := some (1, false) }) (v := _) [14, 15, 16, 17, 18, 19, 20, 21] [] rfl rfl (by kernel_rfl) (by kernel_rfl) (by kernel_rfl) (by kernel_rfl) (by kernel_rfl) (by kernel_rfl) (by kernel_rfl) (fun _ _ _ h => h) (Or.inl ⟨by rfl, Or.inl ?_⟩) ?_
                        rotate_left
                        · (intro w' kk ss; have u0 := CV.out _ (HA.out.trans (hr0.trans kk)); have u1 := C0.out _ (HA.out.trans (hr0.trans kk)); have u2 := CH.out _ (HA.out.trans (hr0.trans kk)); go_simp; first | done | with_reducible rfl)
                        try simp only [Act.put, List.setIfInBounds_toArray, List.set_cons_zero, List.set_cons_succ]
                        refine' Reg.wpG_take (i := 14) (oi := { dst := some 114, op := Op.call { callee := Callee.builtin Builtin.len, args := #[Operand.tmp 113], argTypes := #[50] }, type := 3, pos := "law.go:171", after := #[{ on := 13, ground := Ground.data }, { on := 1, ground := Ground.guard }], guard := some (1, false) }) (v := _) [15, 16, 17, 18, 19, 20, 21] [] rfl rfl (by kernel_rfl) (by kernel_rfl) (by kernel_rfl) (by kernel_rfl) (by kernel_rfl) (by kernel_rfl) (by kernel_rfl) (fun _ _ _ h => h) (Or.inl ⟨by rfl, Or.inl ?_⟩) ?_
                        rotate_left
                        · (intro w' kk ss; have u0 := CV.out _ (HA.out.trans (hr0.trans kk)); have u1 := C0.out _ (HA.out.trans (hr0.trans kk)); have u2 := CH.out _ (HA.out.trans (hr0.trans kk)); go_simp; first | done | with_reducible rfl)
                        try simp only [Act.put, List.setIfInBounds_toArray, List.set_cons_zero, List.set_cons_succ]
                        refine' Reg.wpG_take (i := 15) (oi := { dst := some 115, op := Op.binOp BinOp.sub 3 (Operand.tmp 114) (Operand.const (Value.int IntKind.i64 1)) 3, type := 3, pos := "law.go:171", after := #[{ on := 14, ground := Ground.data }, { on := 1, ground := Ground.guard }], guard := some (1, false) }) (v := _) [16, 17, 18, 19, 20, 21] [] rfl rfl (by kernel_rfl) (by kernel_rfl) (by kernel_rfl) (by kernel_rfl) (by kernel_rfl) (by kernel_rfl) (by kernel_rfl) (fun _ _ _ h => h) (Or.inl ⟨by rfl, Or.inl ?_⟩) ?_
                        rotate_left
                        · (intro w' kk ss; have u0 := CV.out _ (HA.out.trans (hr0.trans kk)); have u1 := C0.out _ (HA.out.trans (hr0.trans kk)); have u2 := CH.out _ (HA.out.trans (hr0.trans kk)); go_simp; first | done | with_reducible rfl)
                        try simp only [Act.put, List.setIfInBounds_toArray, List.set_cons_zero, List.set_cons_succ]
                        refine' Reg.wpG_take (i := 16) (oi := { dst := some 116, op := Op.indexAddr 50 (Operand.tmp 109) (Operand.tmp 115), type := 0, pos := "law.go:171", after := #[{ on := 9, ground := Ground.data }, { on := 15, ground := Ground.data }, { on := 1, ground := Ground.guard }], guard := some (1, false) }) (v := _) [17, 18, 19, 20, 21] [] rfl rfl (by kernel_rfl) (by kernel_rfl) (by kernel_rfl) (by kernel_rfl) (by kernel_rfl) (by kernel_rfl) (by kernel_rfl) (fun _ _ _ h => h) (Or.inl ⟨by rfl, Or.inl ?_⟩) ?_
                        rotate_left
                        · (intro w' kk ss; have u0 := CV.out _ (HA.out.trans (hr0.trans kk)); have u1 := C0.out _ (HA.out.trans (hr0.trans kk)); have u2 := CH.out _ (HA.out.trans (hr0.trans kk)); go_simp; first | done | with_reducible rfl)
                        try simp only [Act.put, List.setIfInBounds_toArray, List.set_cons_zero, List.set_cons_succ]
                        refine' Reg.wpG_take (i := 17) (oi := { dst := some 117, op := Op.fieldAddr 49 (Operand.tmp 116) 1, type := 0, pos := "law.go:171", after := #[{ on := 16, ground := Ground.data }, { on := 1, ground := Ground.guard }], guard := some (1, false) }) (v := _) [18, 19, 20, 21] [] rfl rfl (by kernel_rfl) (by kernel_rfl) (by kernel_rfl) (by kernel_rfl) (by kernel_rfl) (by kernel_rfl) (by kernel_rfl) (fun _ _ _ h => h) (Or.inl ⟨by rfl, Or.inl ?_⟩) ?_
                        rotate_left
                        · (intro w' kk ss; have u0 := CV.out _ (HA.out.trans (hr0.trans kk)); have u1 := C0.out _ (HA.out.trans (hr0.trans kk)); have u2 := CH.out _ (HA.out.trans (hr0.trans kk)); go_simp; first | done | with_reducible rfl)
                        try simp only [Act.put, List.setIfInBounds_toArray, List.set_cons_zero, List.set_cons_succ]
                        refine' Reg.wpG_take (i := 18) (oi := { dst := some 118, op := Op.load 2 (Operand.tmp 117), type := 2, pos := "law.go:171", after := #[{ on := 17, ground := Ground.data }, { on := 1, ground := Ground.guard }], guard := some (1, false) }) (v := _) [19, 20, 21] [] rfl rfl (by kernel_rfl) (by kernel_rfl) (by kernel_rfl) (by kernel_rfl) (by kernel_rfl) (by kernel_rfl) (by kernel_rfl) (fun _ _ _ h => h) (Or.inl ⟨by rfl, Or.inl ?_⟩) ?_
                        rotate_left
                        · (intro w' kk ss; have u0 := CV.out _ (HA.out.trans (hr0.trans kk)); have u1 := C0.out _ (HA.out.trans (hr0.trans kk)); have u2 := CH.out _ (HA.out.trans (hr0.trans kk)); go_simp; first | done | with_reducible rfl)
                        try simp only [Act.put, List.setIfInBounds_toArray, List.set_cons_zero, List.set_cons_succ]
                        refine' Reg.wpG_take (i := 19) (oi := { dst := some 119, op := Op.binOp BinOp.eql 2 (Operand.tmp 105) (Operand.tmp 118) 2, type := 4, pos := "law.go:171", after := #[{ on := 5, ground := Ground.data }, { on := 18, ground := Ground.data }, { on := 1, ground := Ground.guard }], guard := some (1, false) }) (v := _) [20, 21] [] rfl rfl (by kernel_rfl) (by kernel_rfl) (by kernel_rfl) (by kernel_rfl) (by kernel_rfl) (by kernel_rfl) (by kernel_rfl) (fun _ _ _ h => h) (Or.inl ⟨by rfl, Or.inl ?_⟩) ?_
                        rotate_left
                        · (intro w' kk ss; have u0 := CV.out _ (HA.out.trans (hr0.trans kk)); have u1 := C0.out _ (HA.out.trans (hr0.trans kk)); have u2 := CH.out _ (HA.out.trans (hr0.trans kk)); go_simp; first | done | with_reducible rfl)
                        try simp only [Act.put, List.setIfInBounds_toArray, List.set_cons_zero, List.set_cons_succ]
                        refine' Reg.wpG_take (i := 20) (oi := { dst := some 120, op := Op.pick (Operand.tmp 101) (Operand.const (Value.bool true)) (Operand.tmp 119), type := 4, pos := "law.go:171", after := #[{ on := 1, ground := Ground.data }, { on := 19, ground := Ground.data }], guard := none }) (v := _) [21] [] rfl rfl (by kernel_rfl) (by kernel_rfl) (by kernel_rfl) (by kernel_rfl) (by kernel_rfl) (by kernel_rfl) (by kernel_rfl) (fun _ _ _ h => h) (Or.inl ⟨by rfl, Or.inl ?_⟩) ?_
                        rotate_left
                        · (intro w' kk ss; have u0 := CV.out _ (HA.out.trans (hr0.trans kk)); have u1 := C0.out _ (HA.out.trans (hr0.trans kk)); have u2 := CH.out _ (HA.out.trans (hr0.trans kk)); go_simp; first | done | with_reducible rfl)
                        try simp only [Act.put, List.setIfInBounds_toArray, List.set_cons_zero, List.set_cons_succ]
                        refine' Reg.wpG_take (i := 21) (oi := { dst := some 12, op := Op.assign (Operand.tmp 120), type := 4, pos := "law.go:171", after := #[{ on := 20, ground := Ground.data }, { on := 1, ground := Ground.chain }, { on := 0, ground := Ground.phase }, { on := 1, ground := Ground.phase }, { on := 2, ground := Ground.phase }, { on := 3, ground := Ground.phase }, { on := 4, ground := Ground.phase }, { on := 5, ground := Ground.phase }, { on := 6, ground := Ground.phase }, { on := 7, ground := Ground.phase }, { on := 8, ground := Ground.phase }, { on := 9, ground := Ground.phase }, { on := 10, ground := Ground.phase }, { on := 11, ground := Ground.phase }, { on := 12, ground := Ground.phase }, { on := 13, ground := Ground.phase }, { on := 14, ground := Ground.phase }, { on := 15, ground := Ground.phase }, { on := 16, ground := Ground.phase }, { on := 17, ground := Ground.phase }, { on := 18, ground := Ground.phase }, { on := 19, ground := Ground.phase }, { on := 20, ground := Ground.phase }], guard := none }) (v := _) [] [] rfl rfl (by kernel_rfl) (by kernel_rfl) (by kernel_rfl) (by kernel_rfl) (by kernel_rfl) (by kernel_rfl) (by kernel_rfl) (fun _ _ _ h => h) (Or.inl ⟨by rfl, Or.inl ?_⟩) ?_
                        rotate_left
                        · (intro w' kk ss; have u0 := CV.out _ (HA.out.trans (hr0.trans kk)); have u1 := C0.out _ (HA.out.trans (hr0.trans kk)); have u2 := CH.out _ (HA.out.trans (hr0.trans kk)); go_simp; first | done | with_reducible rfl)
                        try simp only [Act.put, List.setIfInBounds_toArray, List.set_cons_zero, List.set_cons_succ]
                        refine Reg.wpG_done (by kernel_rfl) (fun wb ke se => ?_) _
                        refine NoPanic.normal ?_
                        have hr0 := hr0.trans ke
                        clear ke
                        have HBB := Lib.hid hr0
                        clear hr0
                        go_wp2
                        go_roundw
                        case rel => exact ⟨q + 1, by go_num, by omega, by rw [N1.out]; simp [cl1], by rw [N2.out]; first | (simp [ce]; done) | (simp [← cl1, ce]; done) | (rw [← cl1]; simp [ce]; done) | (simp [cl1]; done) | (simp [cl1, ce]; done) | (simp_all; done), Lib.hid (HV.out.trans (HA.out.trans HBB.out))⟩
                        case measure => simp [intOf]; omega
              · obtain rfl : q = m6 := by omega
                have t1 := HT1.out
                have t2 := HT2.out
                rw [List.take_of_length_le (by have := HLM.out; omega), t1, t2]
                clear t1 t2
                go_wp2
                go_roundw
                case rel => exact ⟨x + 1, by go_num, by omega, HV⟩
                case measure => simp [intOf]; omega
          · obtain rfl : x = n := by omega
            go_wp2
            go_ret
            exact ⟨rfl, T6.out.trans HX6.out⟩

set_option maxRecDepth 100000 in
theorem lifted (os : Os) (started : os.Started) (H : Type) (enc : TypeId × Value → H) :
    ReturnsInHanded {} Try.checked os 7 .any (Rows.linearTightSpec.pre6 enc Try.prog Try.f7 Rows.linearTightRow.domain false) (Rows.linearTightSpec.post enc Try.prog Try.f7 false true false false) := by
  refine returnsInHanded_of_change (C := Try.checked) own started (by kernel_rfl) Try.func7
    (ChangeSpec.witness6 (enc := enc) (C := Try.checked) false ⟨#[], #[.agg #[.int .i64 0, .slice none 0 0, .slice none 0 0, .int .i64 0], .slice none 0 0], []⟩ 8 (by kernel_rfl) (by kernel_rfl) (by kernel_rfl) (by kernel_rfl)) ?_
  intro W base args ds gs before hval0 hW hcnd _
  have hval : ∀ (j : Nat) t v, Try.f7.params[j]? = some t → args[j]? = some v → Value.okWide Try.prog W .any base t v := hval0
  have hW' := hW
  obtain ⟨p, q, hA0, hV, rfl, hfz, hnd⟩ := hW
  have hA : DataW.TrodAll enc Try.prog W 0 (fun _ => true) true Try.f7.params.toList args.toList ds p := hA0
  rw [Try.params7] at hA hval
  obtain ⟨v0, vs0, d0, ds0, p0, q0, hargs, rfl, rfl, h0, r0⟩ := trodAll_cons hA
  obtain ⟨v1, vs1, d1, ds1, p1, q1, rfl, rfl, rfl, h1, r1⟩ := trodAll_cons r0
  obtain ⟨rfl, rfl, rfl⟩ := trodAll_nil r1
  obtain rfl : args = #[v0, v1] := by cases args; simp_all
  obtain ⟨rfl, rfl⟩ := trodVars_none hV
  obtain ⟨k0k, X0, n0, xc0, Y0, m0, yc0, e0, rfl, z0, w0⟩ := Go.Proofs.Ytoegbgkgenjplaa.Sn.con_in ⟨Try.underlying25, ⟨rfl, rfl, rfl, rfl⟩, ⟨by kernel_rfl, by kernel_rfl, by kernel_rfl, by kernel_rfl⟩, Try.underlying3, Try.underlying22, Try.underlying23, Try.underlying2, Try.underlying3, by kernel_rfl, Try.underlying2, by kernel_rfl⟩ (by kernel_rfl) (hval 0 25 v0 rfl rfl) h0
  have k0 := h0
  have lt0 : ∀ x ∈ p0, x.block < W.heap.size := by obtain ⟨m, hm⟩ := k0; exact DataW.trod_lt m _ _ _ hm
  obtain ⟨a1, len1, cap1, rfl⟩ := okWide_slice Try.underlying30 (hval 1 30 v1 rfl rfl)
  have k1 := h1
  have lt1 : ∀ x ∈ p1, x.block < W.heap.size := by obtain ⟨m, hm⟩ := k1; exact DataW.trod_lt m _ _ _ hm
  obtain ⟨z1, w1⟩ : ∃ zs, Go.Proofs.Ytoegbgkgenjplaa.Tr.DomsIn W a1 len1 cap1 zs := by
    obtain ⟨fuel, hf⟩ := h1
    exact Go.Proofs.Ytoegbgkgenjplaa.Tr.doms_in Try.underlying30 (by kernel_rfl) Try.underlying50 Try.underlying49 (by kernel_rfl) rfl rfl (by kernel_rfl) (by kernel_rfl) Try.underlying2 Try.underlying2 hf
  clear hA0 hval0
  refine (walk k0k X0 n0 xc0 Y0 m0 yc0 e0 z0 a1 len1 cap1 z1 W w0 w1).mono fun e W' ⟨he, bel⟩ => ?_
  subst he
  exact ⟨_, rfl, _, _, _, [], _, [], hW', trodAll_mk1 (shut_bool Try.underlying4 _), (trodAll_cons_mk (Below.trod laidOut (by kernel_rfl) (of_decide_eq_true (by kernel_rfl)) k0 bel lt0) (trodAll_cons_mk (Below.trod laidOut (by kernel_rfl) (of_decide_eq_true (by kernel_rfl)) k1 bel lt1) trodAll_mk0)), rfl, bel.frame _, fun h => by cases h⟩

theorem over : Rows.linearTightRow.holds Try.pinned (OpenSpec.ofChange Rows.linearTightSpec) :=
  OpenClaim.holds_of_wide 7 Try.f7 rfl rfl rfl rfl rfl rfl rfl ⟨rfl, rfl, rfl, rfl, rfl⟩ rfl rfl rfl rfl rfl (by kernel_rfl) Try.func7 (by kernel_rfl)
    (of_decide_eq_true (by kernel_rfl)) (by unfold Func.isWrapper; first | (rw [if_pos (by decide +kernel)]; kernel_rfl) | (rw [if_neg (by decide +kernel)]; exact ⟨rfl, rfl⟩))
    (fun os started H enc _ => lifted os started H enc)

/-- THE STATEMENT -/
theorem proved : Rows.LinearTightSaid := over
#print axioms proved
end Go.Proofs.Ytoegbgkgenjplaa.linearTight
