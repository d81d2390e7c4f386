/-
  For all constraints and domains: the law LogicAll returns true (where the variables are unlike ones, and it does not fail, each value that is left to one of them is in values for which it holds). No condition.
-/
import Derived.Test.YtilgmkhcpmegjaaRows
import Derived.WalkKit
import Derived.ProofKit
import Derived.OpenShut
import Derived.ShutString
import Derived.ChangeOld
import Derived.Below
import Derived.Test.YtilgmkhcpmegjaaCo
import Derived.Test.YtilgmkhcpmegjaaCq
import Derived.Test.YtilgmkhcpmegjaaQbp
import Derived.Test.YtilgmkhcpmegjaaQan
import Derived.Test.YtilgmkhcpmegjaaQbt
import Derived.Test.YtilgmkhcpmegjaaVo
import Derived.Test.YtilgmkhcpmegjaaUz
namespace Go.Proofs.Ytilgmkhcpmegjaa.logicAll
open Go.ChangeShapes Go.WideShapes Go.ChangeAt Go.RowKit
open Go.ChangeMaps (open_string shut_string)
open Go.Proofs.Ytilgmkhcpmegjaa.Dig Go.Proofs.Ytilgmkhcpmegjaa.Zs Go.Proofs.Ytilgmkhcpmegjaa.Tr Go.Proofs.Ytilgmkhcpmegjaa.Sn Go.Proofs.Ytilgmkhcpmegjaa.Ln Go.Proofs.Ytilgmkhcpmegjaa.At Go.Proofs.Ytilgmkhcpmegjaa.Lgc Go.Proofs.Ytilgmkhcpmegjaa.Ev
open Go.Proofs.Ytilgmkhcpmegjaa.Ti (Sl QR stR elR)
set_option linter.unusedVariables false

theorem own : ownKnob Try.prog.godebug = none := by kernel_rfl
theorem laidOut : laidOutB Try.prog = true := by kernel_rfl

/-- WHAT THE WALK IS TOLD OF A SLICE OF INTEGERS THAT CAME IN: it is nil; or it leads to a row of 'cap' cells, the numbers 'zs' (the first 'len' are its elements, the rest its spare room), each fitting its kind. -/
def IsRow (k : IntKind) (w : World) (a : Option Addr) (len cap : Nat) (zs : List Int) : Prop :=
  (a = none ∧ len = 0 ∧ cap = 0 ∧ zs = []) ∨
  ∃ x, a = some x ∧ len ≤ cap ∧ cap ≤ maxLen ∧ zs.length = cap ∧ (∀ i, i < zs.length → w.cell? (x.add i) = some (.int k (zs.getD i 0))) ∧ ∀ n ∈ zs, (Lit.int k n).wf = true

set_option maxRecDepth 100000 in
set_option maxHeartbeats 3000000 in
theorem walk (k0k : Int) (X0 : Option Addr) (n0 xc0 : Nat) (Y0 : Option Addr) (m0 yc0 : Nat) (e0 : Int) (z0 : Go.Proofs.Ytilgmkhcpmegjaa.Sn.Cn) (a1 : Option Addr) (len1 cap1 : Nat) (z1 : Go.Proofs.Ytilgmkhcpmegjaa.Tr.Ds) (w : World) (w0 : Go.Proofs.Ytilgmkhcpmegjaa.Sn.ConIn w k0k X0 n0 xc0 Y0 m0 yc0 e0 z0) (w1 : Go.Proofs.Ytilgmkhcpmegjaa.Tr.DomsIn w a1 len1 cap1 z1) :
    Calls Try.prog 6 #[.agg #[.int .i64 k0k, .slice X0 n0 xc0, .slice Y0 m0 yc0, .int .i64 e0], .slice a1 len1 cap1] w fun e w' => e = .returned (.bool true) ∧ Since w w' := by
  obtain ⟨hC, hBC, hcx, hca⟩ := w0
  obtain ⟨hl1, hD, hB1, hL1⟩ := w1
  subst hl1
  have AL := Lib.hid (fun W => Go.Proofs.Ytilgmkhcpmegjaa.Lgc.alive15_any W)
  have hbd : ∀ d ∈ z1, Bd d := fun d hd => (hB1 d hd).1
  have MI := Lib.hid (fun W (k : Since w W) => mine_any _ _ z0 z1 W (hC.since k) (hD.since stD k) hL1 (fun d hd => (hB1 d hd).2) hcx hca hbd)
  have S0 := Lib.hid (since_alloc w (.cells #[.int .i64 k0k, .slice X0 n0 xc0, .slice Y0 m0 yc0, .int .i64 e0] 25))
  have B0 := Lib.hid (Bx.fresh w #[.int .i64 k0k, .slice X0 n0 xc0, .slice Y0 m0 yc0, .int .i64 e0] 25)
  obtain ⟨f, hf⟩ : ∃ f, mineB z0 z1 = f := ⟨_, rfl⟩
  rw [hf] at MI
  cases f with
  | false =>
    clear hf hC hD hB1 hL1 hBC hcx hca hbd
    obtain ⟨b0, b1, b2, b3⟩ := bx4 B0.out
    go_enter Try.func6, Try.ntmps6
    go_wp2_with (first | (go_at_call 15; (with_reducible refine (AL.out _).mono ?_); rintro e w1 ⟨rfl, k1⟩; have U1 := Lib.hid k1; have T1 := Lib.hid (S0.out.trans k1); obtain ⟨b0, b1, b2, b3⟩ := bx4 (B0.out.since k1); clear k1) | (go_at_call 21; (with_reducible refine (MI.out _ T1.out).mono ?_); rintro e w2 ⟨rfl, k2⟩; have U2 := Lib.hid (U1.out.trans k2); have T2 := Lib.hid (T1.out.trans k2); obtain ⟨b0, b1, b2, b3⟩ := bx4 (B0.out.since U2.out); clear k2))
    go_ret
    exact ⟨rfl, T2.out⟩
  | true =>
  obtain ⟨hk, hsz, h100, hm⟩ := mine_parts hf
  have FW := Lib.hid (fun W (k : Since w W) => few2_any _ z1 W (hD.since stD k) (by omega) (fun d hd => ⟨hsz.1 d hd, hbd d hd⟩))
  obtain ⟨hkq, hcc0, hXX, hYY, hn0, hm0⟩ := con_open hC
  clear hf
  obtain ⟨m1, m2, m3⟩ := mod_parts hm
  have hx := (con_x m3).1
  have hk5 := lk4 hk
  have NA := Lib.hid (fun W (k : Since w W) => logic_any _ _ z0 z1 W (hC.since k) (hD.since stD k) hsz)
  rw [logO_is hm hk rfl] at NA
  have G1 := Lib.hid (fun E (he : logL z0.k z0.x z0.a z1 = some E) => And.intro ((log_ok m3 hk).ok _ _ m1 rfl he).1 ((log_ok m3 hk).ok _ _ m1 rfl he).2.1)
  have TI := Lib.hid (fun E (hE : logL z0.k z0.x z0.a z1 = some E) (hnd : z0.x.Nodup) (y v : Int) (hy : y ∈ z0.x) (he : has (domAt E y) v = true) => log_found hm hk hnd hE (G1.out E hE).1 hy he)
  have PR := Lib.hid (fun E (he : logL z0.k z0.x z0.a z1 = some E) => show prodF E ≤ prodF z1 from log_prod m1.rd he)
  have CLT := Lib.hid (fun W (k : Since w W) => show Sl 4 QC (W.alloc (.cells #[.int .i64 k0k, .slice X0 n0 xc0, .slice Y0 m0 yc0, .int .i64 e0] 25)) (.slice (some ⟨W.heap.size, 0, none⟩) 1 1) [z0] from by
    obtain ⟨vx', vy', hh', h1', h2'⟩ := hC.since k
    injection hh' with hh'
    simp at hh'
    obtain ⟨hq1, hq2, hq3, hq4⟩ := hh'
    have := con_lit W z0 vx' vy' h1' h2'
    rw [← hq1, ← hq2, ← hq3, ← hq4] at this
    exact this)
  have EV0 := Lib.hid (fun (E : Ln.Ds) (hE : Gd E) (hl : E.length ≤ 1000) W vo vc (hO : Sl 1 QD W vo E) (hc : Sl 4 QC W vc [z0]) (hp : prodF E ≤ 400) => every_anyG vo vc z0 E W hO hc hl hE hp ⟨fun d hd => right_len (hE d hd).1, hsz.2⟩ hk5)
  have HX := Lib.hid hXX
  have HNX := Lib.hid hXX.at_.1
  have HIN := Lib.hid (fun y (hy : y ∈ z0.x) => show ∃ j : Nat, y = (j : Int) ∧ j < z1.length from ⟨y.toNat, by have := inn_all hx y hy; exact ⟨by have := this.1; omega, this.2⟩⟩)
  have hn32 : n0 ≤ 1000 := by have := (con_x m3).2.1; have := hXX.at_.1; omega
  have h1000 : z1.length ≤ 1000 := by omega
  generalize logL z0.k z0.x z0.a z1 = R at *
  unfold RetNr at NA
  clear hC hD hB1 hL1 hBC hcx hca hsz h100 hbd hm hk m1 m2 m3 hx hk5 hXX hYY hkq hcc0 hn0 hm0
  obtain ⟨b0, b1, b2, b3⟩ := bx4 B0.out
  go_enter Try.func6, Try.ntmps6
  go_wp2_with (first | (go_at_call 15; (with_reducible refine (AL.out _).mono ?_); rintro e w1 ⟨rfl, k1⟩; have U1 := Lib.hid k1; have T1 := Lib.hid (S0.out.trans k1); obtain ⟨b0, b1, b2, b3⟩ := bx4 (B0.out.since k1); clear k1) | (go_at_call 21; (with_reducible refine (MI.out _ T1.out).mono ?_); rintro e w2 ⟨rfl, k2⟩; have U2 := Lib.hid (U1.out.trans k2); have T2 := Lib.hid (T1.out.trans k2); obtain ⟨b0, b1, b2, b3⟩ := bx4 (B0.out.since U2.out); clear k2) | (go_at_call 20; (with_reducible refine (FW.out _ T2.out).mono ?_); rintro e w3 (⟨rfl, k3⟩ | ⟨rfl, hp3, k3⟩) <;> (have U3 := Lib.hid (U2.out.trans k3); have T3 := Lib.hid (T2.out.trans k3); obtain ⟨b0, b1, b2, b3⟩ := bx4 (B0.out.since U3.out); clear k3)))
  all_goals try (go_ret; exact ⟨rfl, T3.out⟩)
  go_loopw [30] (fun i wr => ∃ (p : Nat), i = .int .i64 (p : Int) ∧ p ≤ n0 ∧ Hid (∀ i k, k < i → i < p → z0.x.getD i 0 ≠ z0.x.getD k 0) ∧ Hid (Since w3 wr)) (fun i _ => n0 - (intOf i).toNat)
  case atStart => exact ⟨0, rfl, Nat.zero_le _, Lib.hid (fun i k _ h => absurd h (by omega)), Lib.hid (Since.refl _)⟩
  case round =>
    obtain ⟨p, rfl, hp, HP, HW⟩ := hrel
    have HWP := Lib.hid HW.out
    by_cases hpn : p < n0
    · obtain ⟨b0, b1, b2, b3⟩ := bx4 (B0.out.since (U3.out.trans HW.out))
      have hpx : p < z0.x.length := by have := HNX.out; omega
      have HPX := Lib.hid hpx
      clear hpx
      go_wp2
      go_loopw [34] (fun i wr2 => ∃ (q : Nat), i = .int .i64 (q : Int) ∧ q ≤ p ∧ Hid (∀ k, k < q → z0.x.getD p 0 ≠ z0.x.getD k 0) ∧ Hid (Since w3 wr2)) (fun i _ => p - (intOf i).toNat)
      case atStart => exact ⟨0, rfl, Nat.zero_le _, Lib.hid (fun k h => absurd h (by omega)), HWP⟩
      case round =>
        obtain ⟨q, rfl, hq, HQ, HV⟩ := hrel
        have HB := Lib.hid (B0.out.since (U3.out.trans HV.out))
        have TV := Lib.hid (T3.out.trans HV.out)
        by_cases hqp : q < p
        · have hpx := HPX.out
          have hqx : q < z0.x.length := by omega
          have hqn : q < n0 := by omega
          obtain ⟨gx, ox, hX0, ep⟩ := elI (HX.out.since stI TV.out) hpx
          obtain ⟨gx2, ox2, hX1, eq⟩ := elI (HX.out.since stI TV.out) hqx
          rw [hX0] at hX1
          injection hX1 with hX1
          injection hX1 with hX1 hX2 _
          subst hX1 hX2
          have GP := Lib.hid (show z0.x.getD p 0 = z0.x[p] by simp [List.getD, hpx])
          have GQ := Lib.hid (show z0.x.getD q 0 = z0.x[q] by simp [List.getD, hqx])
          generalize z0.x[p] = xp at *
          generalize z0.x[q] = xq at *
          have CP := Lib.hid (fun W (k : Since wr W) => (k.cell _ (World.block_lt_of_cell? _ _ ep)).trans ep)
          have CQ := Lib.hid (fun W (k : Since wr W) => (k.cell _ (World.block_lt_of_cell? _ _ eq)).trans eq)
          clear ep eq hpx hqx
          subst hX0
          by_cases e : xp = xq
          · subst e
            go_wp2
            have hr0 : Since wr wr.drew := Since.drew (Since.refl wr)
            refine wp_region_noPanic ?_
            refine Reg.wp_region_G (S := fun _ => True) (fun j => [].contains j) (by kernel_rfl) trivial ?_
            refine' Reg.wpG_take (i := 0) (oi := { dst := some 37, op := Op.fieldAddr 25 (Operand.tmp 2) 1, type := 0, pos := "law.go:80", after := #[], guard := none }) (v := _) [1, 3, 4, 10] [] rfl rfl (by kernel_rfl) (by kernel_rfl) (by kernel_rfl) (by kernel_rfl) (by kernel_rfl) (by kernel_rfl) (by kernel_rfl) (fun _ _ _ h => h) (Or.inl ⟨by rfl, Or.inl ?_⟩) ?_
            rotate_left
            · (intro w' kk ss; obtain ⟨x0, x1, x2, x3⟩ := bx4 (HB.out.since (hr0.trans kk)); have u0 := CP.out _ (hr0.trans kk); have u1 := CQ.out _ (hr0.trans kk); go_simp; first | done | with_reducible rfl)
            try simp only [Act.put, List.setIfInBounds_toArray, List.set_cons_zero, List.set_cons_succ]
            refine' Reg.wpG_take (i := 1) (oi := { dst := some 38, op := Op.load 22 (Operand.tmp 37), type := 22, pos := "law.go:80", after := #[{ on := 0, ground := Ground.data }], guard := none }) (v := _) [3, 4, 10] [] rfl rfl (by kernel_rfl) (by kernel_rfl) (by kernel_rfl) (by kernel_rfl) (by kernel_rfl) (by kernel_rfl) (by kernel_rfl) (fun _ _ _ h => h) (Or.inl ⟨by rfl, Or.inl ?_⟩) ?_
            rotate_left
            · (intro w' kk ss; obtain ⟨x0, x1, x2, x3⟩ := bx4 (HB.out.since (hr0.trans kk)); have u0 := CP.out _ (hr0.trans kk); have u1 := CQ.out _ (hr0.trans kk); go_simp; first | done | with_reducible rfl)
            try simp only [Act.put, List.setIfInBounds_toArray, List.set_cons_zero, List.set_cons_succ]
            refine' Reg.wpG_take (i := 2) (oi := { dst := some 39, op := Op.move (Operand.tmp 5), type := 3, pos := "law.go:80", after := #[], guard := none }) (v := _) [3, 4, 10] [] rfl rfl (by kernel_rfl) (by kernel_rfl) (by kernel_rfl) (by kernel_rfl) (by kernel_rfl) (by kernel_rfl) (by kernel_rfl) (fun _ _ _ h => h) (Or.inl ⟨by rfl, Or.inl ?_⟩) ?_
            rotate_left
            · (intro w' kk ss; obtain ⟨x0, x1, x2, x3⟩ := bx4 (HB.out.since (hr0.trans kk)); have u0 := CP.out _ (hr0.trans kk); have u1 := CQ.out _ (hr0.trans kk); go_simp; first | done | with_reducible rfl)
            try simp only [Act.put, List.setIfInBounds_toArray, List.set_cons_zero, List.set_cons_succ]
            refine' Reg.wpG_take (i := 3) (oi := { dst := some 40, op := Op.indexAddr 22 (Operand.tmp 38) (Operand.tmp 39), type := 0, pos := "law.go:80", after := #[{ on := 1, ground := Ground.data }, { on := 2, ground := Ground.data }], guard := none }) (v := _) [4, 10] [] rfl rfl (by kernel_rfl) (by kernel_rfl) (by kernel_rfl) (by kernel_rfl) (by kernel_rfl) (by kernel_rfl) (by kernel_rfl) (fun _ _ _ h => h) (Or.inl ⟨by rfl, Or.inl ?_⟩) ?_
            rotate_left
            · (intro w' kk ss; obtain ⟨x0, x1, x2, x3⟩ := bx4 (HB.out.since (hr0.trans kk)); have u0 := CP.out _ (hr0.trans kk); have u1 := CQ.out _ (hr0.trans kk); go_simp; first | done | with_reducible rfl)
            try simp only [Act.put, List.setIfInBounds_toArray, List.set_cons_zero, List.set_cons_succ]
            refine' Reg.wpG_take (i := 4) (oi := { dst := some 41, op := Op.load 3 (Operand.tmp 40), type := 3, pos := "law.go:80", after := #[{ on := 3, ground := Ground.data }], guard := none }) (v := _) [10] [] rfl rfl (by kernel_rfl) (by kernel_rfl) (by kernel_rfl) (by kernel_rfl) (by kernel_rfl) (by kernel_rfl) (by kernel_rfl) (fun _ _ _ h => h) (Or.inl ⟨by rfl, Or.inl ?_⟩) ?_
            rotate_left
            · (intro w' kk ss; obtain ⟨x0, x1, x2, x3⟩ := bx4 (HB.out.since (hr0.trans kk)); have u0 := CP.out _ (hr0.trans kk); have u1 := CQ.out _ (hr0.trans kk); go_simp; first | done | with_reducible rfl)
            try simp only [Act.put, List.setIfInBounds_toArray, List.set_cons_zero, List.set_cons_succ]
            refine' Reg.wpG_take (i := 5) (oi := { dst := some 42, op := Op.fieldAddr 25 (Operand.tmp 2) 1, type := 0, pos := "law.go:80", after := #[], guard := none }) (v := _) [6, 8, 9, 10] [] rfl rfl (by kernel_rfl) (by kernel_rfl) (by kernel_rfl) (by kernel_rfl) (by kernel_rfl) (by kernel_rfl) (by kernel_rfl) (fun _ _ _ h => h) (Or.inl ⟨by rfl, Or.inl ?_⟩) ?_
            rotate_left
            · (intro w' kk ss; obtain ⟨x0, x1, x2, x3⟩ := bx4 (HB.out.since (hr0.trans kk)); have u0 := CP.out _ (hr0.trans kk); have u1 := CQ.out _ (hr0.trans kk); go_simp; first | done | with_reducible rfl)
            try simp only [Act.put, List.setIfInBounds_toArray, List.set_cons_zero, List.set_cons_succ]
            refine' Reg.wpG_take (i := 6) (oi := { dst := some 43, op := Op.load 22 (Operand.tmp 42), type := 22, pos := "law.go:80", after := #[{ on := 5, ground := Ground.data }], guard := none }) (v := _) [8, 9, 10] [] rfl rfl (by kernel_rfl) (by kernel_rfl) (by kernel_rfl) (by kernel_rfl) (by kernel_rfl) (by kernel_rfl) (by kernel_rfl) (fun _ _ _ h => h) (Or.inl ⟨by rfl, Or.inl ?_⟩) ?_
            rotate_left
            · (intro w' kk ss; obtain ⟨x0, x1, x2, x3⟩ := bx4 (HB.out.since (hr0.trans kk)); have u0 := CP.out _ (hr0.trans kk); have u1 := CQ.out _ (hr0.trans kk); go_simp; first | done | with_reducible rfl)
            try simp only [Act.put, List.setIfInBounds_toArray, List.set_cons_zero, List.set_cons_succ]
            refine' Reg.wpG_take (i := 7) (oi := { dst := some 44, op := Op.move (Operand.tmp 6), type := 3, pos := "law.go:80", after := #[], guard := none }) (v := _) [8, 9, 10] [] rfl rfl (by kernel_rfl) (by kernel_rfl) (by kernel_rfl) (by kernel_rfl) (by kernel_rfl) (by kernel_rfl) (by kernel_rfl) (fun _ _ _ h => h) (Or.inl ⟨by rfl, Or.inl ?_⟩) ?_
            rotate_left
            · (intro w' kk ss; obtain ⟨x0, x1, x2, x3⟩ := bx4 (HB.out.since (hr0.trans kk)); have u0 := CP.out _ (hr0.trans kk); have u1 := CQ.out _ (hr0.trans kk); go_simp; first | done | with_reducible rfl)
            try simp only [Act.put, List.setIfInBounds_toArray, List.set_cons_zero, List.set_cons_succ]
            refine' Reg.wpG_take (i := 8) (oi := { dst := some 45, op := Op.indexAddr 22 (Operand.tmp 43) (Operand.tmp 44), type := 0, pos := "law.go:80", after := #[{ on := 6, ground := Ground.data }, { on := 7, ground := Ground.data }], guard := none }) (v := _) [9, 10] [] rfl rfl (by kernel_rfl) (by kernel_rfl) (by kernel_rfl) (by kernel_rfl) (by kernel_rfl) (by kernel_rfl) (by kernel_rfl) (fun _ _ _ h => h) (Or.inl ⟨by rfl, Or.inl ?_⟩) ?_
            rotate_left
            · (intro w' kk ss; obtain ⟨x0, x1, x2, x3⟩ := bx4 (HB.out.since (hr0.trans kk)); have u0 := CP.out _ (hr0.trans kk); have u1 := CQ.out _ (hr0.trans kk); go_simp; first | done | with_reducible rfl)
            try simp only [Act.put, List.setIfInBounds_toArray, List.set_cons_zero, List.set_cons_succ]
            refine' Reg.wpG_take (i := 9) (oi := { dst := some 46, op := Op.load 3 (Operand.tmp 45), type := 3, pos := "law.go:80", after := #[{ on := 8, ground := Ground.data }], guard := none }) (v := _) [10] [] rfl rfl (by kernel_rfl) (by kernel_rfl) (by kernel_rfl) (by kernel_rfl) (by kernel_rfl) (by kernel_rfl) (by kernel_rfl) (fun _ _ _ h => h) (Or.inl ⟨by rfl, Or.inl ?_⟩) ?_
            rotate_left
            · (intro w' kk ss; obtain ⟨x0, x1, x2, x3⟩ := bx4 (HB.out.since (hr0.trans kk)); have u0 := CP.out _ (hr0.trans kk); have u1 := CQ.out _ (hr0.trans kk); go_simp; first | done | with_reducible rfl)
            try simp only [Act.put, List.setIfInBounds_toArray, List.set_cons_zero, List.set_cons_succ]
            refine' Reg.wpG_take (i := 10) (oi := { dst := some 47, op := Op.binOp BinOp.eql 3 (Operand.tmp 41) (Operand.tmp 46) 3, type := 4, pos := "law.go:80", after := #[{ on := 4, ground := Ground.data }, { on := 9, ground := Ground.data }], guard := none }) (v := _) [] [] rfl rfl (by kernel_rfl) (by kernel_rfl) (by kernel_rfl) (by kernel_rfl) (by kernel_rfl) (by kernel_rfl) (by kernel_rfl) (fun _ _ _ h => h) (Or.inl ⟨by rfl, Or.inl ?_⟩) ?_
            rotate_left
            · (intro w' kk ss; obtain ⟨x0, x1, x2, x3⟩ := bx4 (HB.out.since (hr0.trans kk)); have u0 := CP.out _ (hr0.trans kk); have u1 := CQ.out _ (hr0.trans kk); go_simp; first | done | with_reducible rfl)
            try simp only [Act.put, List.setIfInBounds_toArray, List.set_cons_zero, List.set_cons_succ]
            refine Reg.wpG_done (by kernel_rfl) (fun wq ke se => ?_) _
            refine NoPanic.normal ?_
            have hr0 := hr0.trans ke
            clear ke
            go_wp2
            go_ret
            exact ⟨rfl, TV.out.trans hr0⟩
          · go_wp2
            have hr0 : Since wr wr.drew := Since.drew (Since.refl wr)
            refine wp_region_noPanic ?_
            refine Reg.wp_region_G (S := fun _ => True) (fun j => [].contains j) (by kernel_rfl) trivial ?_
            refine' Reg.wpG_take (i := 0) (oi := { dst := some 37, op := Op.fieldAddr 25 (Operand.tmp 2) 1, type := 0, pos := "law.go:80", after := #[], guard := none }) (v := _) [1, 3, 4, 10] [] rfl rfl (by kernel_rfl) (by kernel_rfl) (by kernel_rfl) (by kernel_rfl) (by kernel_rfl) (by kernel_rfl) (by kernel_rfl) (fun _ _ _ h => h) (Or.inl ⟨by rfl, Or.inl ?_⟩) ?_
            rotate_left
            · (intro w' kk ss; obtain ⟨x0, x1, x2, x3⟩ := bx4 (HB.out.since (hr0.trans kk)); have u0 := CP.out _ (hr0.trans kk); have u1 := CQ.out _ (hr0.trans kk); go_simp; first | done | with_reducible rfl)
            try simp only [Act.put, List.setIfInBounds_toArray, List.set_cons_zero, List.set_cons_succ]
            refine' Reg.wpG_take (i := 1) (oi := { dst := some 38, op := Op.load 22 (Operand.tmp 37), type := 22, pos := "law.go:80", after := #[{ on := 0, ground := Ground.data }], guard := none }) (v := _) [3, 4, 10] [] rfl rfl (by kernel_rfl) (by kernel_rfl) (by kernel_rfl) (by kernel_rfl) (by kernel_rfl) (by kernel_rfl) (by kernel_rfl) (fun _ _ _ h => h) (Or.inl ⟨by rfl, Or.inl ?_⟩) ?_
            rotate_left
            · (intro w' kk ss; obtain ⟨x0, x1, x2, x3⟩ := bx4 (HB.out.since (hr0.trans kk)); have u0 := CP.out _ (hr0.trans kk); have u1 := CQ.out _ (hr0.trans kk); go_simp; first | done | with_reducible rfl)
            try simp only [Act.put, List.setIfInBounds_toArray, List.set_cons_zero, List.set_cons_succ]
            refine' Reg.wpG_take (i := 2) (oi := { dst := some 39, op := Op.move (Operand.tmp 5), type := 3, pos := "law.go:80", after := #[], guard := none }) (v := _) [3, 4, 10] [] rfl rfl (by kernel_rfl) (by kernel_rfl) (by kernel_rfl) (by kernel_rfl) (by kernel_rfl) (by kernel_rfl) (by kernel_rfl) (fun _ _ _ h => h) (Or.inl ⟨by rfl, Or.inl ?_⟩) ?_
            rotate_left
            · (intro w' kk ss; obtain ⟨x0, x1, x2, x3⟩ := bx4 (HB.out.since (hr0.trans kk)); have u0 := CP.out _ (hr0.trans kk); have u1 := CQ.out _ (hr0.trans kk); go_simp; first | done | with_reducible rfl)
            try simp only [Act.put, List.setIfInBounds_toArray, List.set_cons_zero, List.set_cons_succ]
            refine' Reg.wpG_take (i := 3) (oi := { dst := some 40, op := Op.indexAddr 22 (Operand.tmp 38) (Operand.tmp 39), type := 0, pos := "law.go:80", after := #[{ on := 1, ground := Ground.data }, { on := 2, ground := Ground.data }], guard := none }) (v := _) [4, 10] [] rfl rfl (by kernel_rfl) (by kernel_rfl) (by kernel_rfl) (by kernel_rfl) (by kernel_rfl) (by kernel_rfl) (by kernel_rfl) (fun _ _ _ h => h) (Or.inl ⟨by rfl, Or.inl ?_⟩) ?_
            rotate_left
            · (intro w' kk ss; obtain ⟨x0, x1, x2, x3⟩ := bx4 (HB.out.since (hr0.trans kk)); have u0 := CP.out _ (hr0.trans kk); have u1 := CQ.out _ (hr0.trans kk); go_simp; first | done | with_reducible rfl)
            try simp only [Act.put, List.setIfInBounds_toArray, List.set_cons_zero, List.set_cons_succ]
            refine' Reg.wpG_take (i := 4) (oi := { dst := some 41, op := Op.load 3 (Operand.tmp 40), type := 3, pos := "law.go:80", after := #[{ on := 3, ground := Ground.data }], guard := none }) (v := _) [10] [] rfl rfl (by kernel_rfl) (by kernel_rfl) (by kernel_rfl) (by kernel_rfl) (by kernel_rfl) (by kernel_rfl) (by kernel_rfl) (fun _ _ _ h => h) (Or.inl ⟨by rfl, Or.inl ?_⟩) ?_
            rotate_left
            · (intro w' kk ss; obtain ⟨x0, x1, x2, x3⟩ := bx4 (HB.out.since (hr0.trans kk)); have u0 := CP.out _ (hr0.trans kk); have u1 := CQ.out _ (hr0.trans kk); go_simp; first | done | with_reducible rfl)
            try simp only [Act.put, List.setIfInBounds_toArray, List.set_cons_zero, List.set_cons_succ]
            refine' Reg.wpG_take (i := 5) (oi := { dst := some 42, op := Op.fieldAddr 25 (Operand.tmp 2) 1, type := 0, pos := "law.go:80", after := #[], guard := none }) (v := _) [6, 8, 9, 10] [] rfl rfl (by kernel_rfl) (by kernel_rfl) (by kernel_rfl) (by kernel_rfl) (by kernel_rfl) (by kernel_rfl) (by kernel_rfl) (fun _ _ _ h => h) (Or.inl ⟨by rfl, Or.inl ?_⟩) ?_
            rotate_left
            · (intro w' kk ss; obtain ⟨x0, x1, x2, x3⟩ := bx4 (HB.out.since (hr0.trans kk)); have u0 := CP.out _ (hr0.trans kk); have u1 := CQ.out _ (hr0.trans kk); go_simp; first | done | with_reducible rfl)
            try simp only [Act.put, List.setIfInBounds_toArray, List.set_cons_zero, List.set_cons_succ]
            refine' Reg.wpG_take (i := 6) (oi := { dst := some 43, op := Op.load 22 (Operand.tmp 42), type := 22, pos := "law.go:80", after := #[{ on := 5, ground := Ground.data }], guard := none }) (v := _) [8, 9, 10] [] rfl rfl (by kernel_rfl) (by kernel_rfl) (by kernel_rfl) (by kernel_rfl) (by kernel_rfl) (by kernel_rfl) (by kernel_rfl) (fun _ _ _ h => h) (Or.inl ⟨by rfl, Or.inl ?_⟩) ?_
            rotate_left
            · (intro w' kk ss; obtain ⟨x0, x1, x2, x3⟩ := bx4 (HB.out.since (hr0.trans kk)); have u0 := CP.out _ (hr0.trans kk); have u1 := CQ.out _ (hr0.trans kk); go_simp; first | done | with_reducible rfl)
            try simp only [Act.put, List.setIfInBounds_toArray, List.set_cons_zero, List.set_cons_succ]
            refine' Reg.wpG_take (i := 7) (oi := { dst := some 44, op := Op.move (Operand.tmp 6), type := 3, pos := "law.go:80", after := #[], guard := none }) (v := _) [8, 9, 10] [] rfl rfl (by kernel_rfl) (by kernel_rfl) (by kernel_rfl) (by kernel_rfl) (by kernel_rfl) (by kernel_rfl) (by kernel_rfl) (fun _ _ _ h => h) (Or.inl ⟨by rfl, Or.inl ?_⟩) ?_
            rotate_left
            · (intro w' kk ss; obtain ⟨x0, x1, x2, x3⟩ := bx4 (HB.out.since (hr0.trans kk)); have u0 := CP.out _ (hr0.trans kk); have u1 := CQ.out _ (hr0.trans kk); go_simp; first | done | with_reducible rfl)
            try simp only [Act.put, List.setIfInBounds_toArray, List.set_cons_zero, List.set_cons_succ]
            refine' Reg.wpG_take (i := 8) (oi := { dst := some 45, op := Op.indexAddr 22 (Operand.tmp 43) (Operand.tmp 44), type := 0, pos := "law.go:80", after := #[{ on := 6, ground := Ground.data }, { on := 7, ground := Ground.data }], guard := none }) (v := _) [9, 10] [] rfl rfl (by kernel_rfl) (by kernel_rfl) (by kernel_rfl) (by kernel_rfl) (by kernel_rfl) (by kernel_rfl) (by kernel_rfl) (fun _ _ _ h => h) (Or.inl ⟨by rfl, Or.inl ?_⟩) ?_
            rotate_left
            · (intro w' kk ss; obtain ⟨x0, x1, x2, x3⟩ := bx4 (HB.out.since (hr0.trans kk)); have u0 := CP.out _ (hr0.trans kk); have u1 := CQ.out _ (hr0.trans kk); go_simp; first | done | with_reducible rfl)
            try simp only [Act.put, List.setIfInBounds_toArray, List.set_cons_zero, List.set_cons_succ]
            refine' Reg.wpG_take (i := 9) (oi := { dst := some 46, op := Op.load 3 (Operand.tmp 45), type := 3, pos := "law.go:80", after := #[{ on := 8, ground := Ground.data }], guard := none }) (v := _) [10] [] rfl rfl (by kernel_rfl) (by kernel_rfl) (by kernel_rfl) (by kernel_rfl) (by kernel_rfl) (by kernel_rfl) (by kernel_rfl) (fun _ _ _ h => h) (Or.inl ⟨by rfl, Or.inl ?_⟩) ?_
            rotate_left
            · (intro w' kk ss; obtain ⟨x0, x1, x2, x3⟩ := bx4 (HB.out.since (hr0.trans kk)); have u0 := CP.out _ (hr0.trans kk); have u1 := CQ.out _ (hr0.trans kk); go_simp; first | done | with_reducible rfl)
            try simp only [Act.put, List.setIfInBounds_toArray, List.set_cons_zero, List.set_cons_succ]
            refine' Reg.wpG_take (i := 10) (oi := { dst := some 47, op := Op.binOp BinOp.eql 3 (Operand.tmp 41) (Operand.tmp 46) 3, type := 4, pos := "law.go:80", after := #[{ on := 4, ground := Ground.data }, { on := 9, ground := Ground.data }], guard := none }) (v := _) [] [] rfl rfl (by kernel_rfl) (by kernel_rfl) (by kernel_rfl) (by kernel_rfl) (by kernel_rfl) (by kernel_rfl) (by kernel_rfl) (fun _ _ _ h => h) (Or.inl ⟨by rfl, Or.inl ?_⟩) ?_
            rotate_left
            · (intro w' kk ss; obtain ⟨x0, x1, x2, x3⟩ := bx4 (HB.out.since (hr0.trans kk)); have u0 := CP.out _ (hr0.trans kk); have u1 := CQ.out _ (hr0.trans kk); go_simp; first | done | with_reducible rfl)
            try simp only [Act.put, List.setIfInBounds_toArray, List.set_cons_zero, List.set_cons_succ]
            refine Reg.wpG_done (by kernel_rfl) (fun wq ke se => ?_) _
            refine NoPanic.normal ?_
            have hr0 := hr0.trans ke
            clear ke
            have HR := Lib.hid hr0
            clear hr0
            go_wp2
            go_roundw
            case rel =>
              refine ⟨q + 1, by go_num, by omega, Lib.hid fun k hk => ?_, Lib.hid (HV.out.trans HR.out)⟩
              by_cases ek : k = q
              · subst ek; rw [GP.out, GQ.out]; exact e
              · exact HQ.out k (by omega)
            case measure => simp [intOf]; omega
        · obtain rfl : q = p := by omega
          go_wp2
          go_roundw
          case rel =>
            refine ⟨q + 1, by go_num, by omega, Lib.hid fun i k h1 h2 => ?_, HV⟩
            by_cases ei : i = q
            · subst ei; exact HQ.out k h1
            · exact HP.out i k h1 (by omega)
          case measure => simp [intOf]; omega
    · obtain rfl : p = n0 := by omega
      have ND := Lib.hid (show z0.x.Nodup by
        rw [List.Nodup, List.pairwise_iff_getElem]
        intro i j hi hj hij e
        refine HP.out j i hij (by have := HNX.out; omega) ?_
        simp [List.getD, hi, hj, e])
      have TW := Lib.hid (T3.out.trans HW.out)
      have UW := Lib.hid (U3.out.trans HW.out)
      obtain ⟨b0, b1, b2, b3⟩ := bx4 (B0.out.since UW.out)
      cases R with
      | none =>
        simp only [Option.isSome_none, Bool.false_eq_true, if_false] at NA
        go_wp2_with (go_at_call 17; (with_reducible refine (NA.out _ TW.out).mono ?_); rintro e w5 ⟨k5, rfl⟩; have T5 := Lib.hid (TW.out.trans k5); clear k5)
        go_ret
        exact ⟨rfl, T5.out⟩
      | some E =>
        simp only [Option.isSome_some, if_true] at NA
        obtain ⟨g1, g2⟩ := G1.out E rfl
        have hp400 : prodF E ≤ 400 := Int.le_trans (PR.out E rfl) hp3
        have hel : E.length ≤ 1000 := by rw [g2.1]; exact h1000
        have EV := Lib.hid (fun W (k : Since w W) vo (hO : Sl 1 QD W vo E) => EV0.out E g1 hel _ vo _ (hO.since stD (since_alloc _ _)) (CLT.out W k) hp400)
        have HGE := Lib.hid g1
        have g2l : E.length = z1.length := g2.1
        have TIE := Lib.hid (fun (y v : Int) (hy : y ∈ z0.x) (he : has (domAt E y) v = true) => TI.out E rfl ND.out y v hy he)
        obtain ⟨n, hn⟩ : ∃ n, n = E.length := ⟨_, rfl⟩
        have HN := Lib.hid hn
        have hn1000 : n ≤ 1000 := by omega
        clear TI G1 PR EV0 CLT g1 g2 hp400 hel ND HP hn
        go_wp2_with (first
          | (go_at_call 17; (with_reducible refine (NA.out _ TW.out).mono ?_); rintro e w5 ⟨k5, g, n2, rfl, hg1, hg2, hD5⟩; have hn2 : n = n2 := (by have h1 := hD5.len; have := HN.out; omega); subst hn2; have T5 := Lib.hid (TW.out.trans k5); have D5 := Lib.hid hD5.sl; have U5 := Lib.hid (UW.out.trans k5); obtain ⟨b0, b1, b2, b3⟩ := bx4 (B0.out.since (UW.out.trans k5)); clear k5 hg1 hg2 hD5)
          | (go_at_call 25; go_loud ((with_reducible refine (EV.out w5 T5.out _ D5.out).mono ?_); rintro e w6 ⟨A6, m6, c6, rfl, hL, hLm, hm4, k6⟩; have HL := Lib.hid hL; have HLM := Lib.hid hLm; have T6 := Lib.hid (T5.out.trans ((since_alloc _ _).trans k6)); have D6 := Lib.hid (D5.out.since stD ((since_alloc _ _).trans k6)); obtain ⟨b0, b1, b2, b3⟩ := bx4 (B0.out.since (U5.out.trans ((since_alloc _ _).trans k6))); clear hL hLm k6)))
        generalize hLL : (allB Ev.vals E).filter (holds z0) = LL at *
        have HLW := Lib.hid (show ∀ b ∈ LL, b.length = n by
          intro b hb
          rw [← hLL] at hb
          rw [(all_wi HGE.out (List.mem_filter.1 hb).1).1]; exact HN.out.symm)
        have HEL := Lib.hid g2l
        clear hLL EV NA g2l
        have UX6 := Lib.hid T6
        go_loopw [67] (fun i wr3 => ∃ (x : Nat), i = .int .i64 (x : Int) ∧ x ≤ p ∧ Hid (Since w6 wr3)) (fun i _ => p - (intOf i).toNat)
        case atStart => exact ⟨0, rfl, Nat.zero_le _, Lib.hid (Since.refl _)⟩
        case round =>
          obtain ⟨x, rfl, hx, HX6⟩ := hrel
          by_cases hxp : x < p
          · have hxl : x < z0.x.length := by have := HNX.out; omega
            obtain ⟨gx, ox, hX0, ep⟩ := elI (HX.out.since stI (T6.out.trans HX6.out)) hxl
            obtain ⟨j, hj, hjl⟩ := HIN.out _ (List.getElem_mem hxl)
            have hjE : j < E.length := by have := HEL.out; omega
            have hjn : j < n := by have := HN.out; omega
            have TJ := Lib.hid (fun (v : Int) (h : has (domAt E (j : Int)) v = true) => TIE.out (j : Int) v (hj ▸ List.getElem_mem hxl) h)
            rw [hj] at ep
            have gE := HGE.out _ (List.getElem_mem hjE)
            have hdE : domAt E (j : Int) = E[j] := domAt_lt (by exact hjE)
            obtain ⟨gd, od, B3, cB, hgd, hSd, e0d⟩ := elD D6.out hjE
            injection hgd with hgd
            injection hgd with hg1 hg2 _
            subst hg1 hg2
            have HH := Lib.hid (fun (W : World) (k : Since w6 W) (v : Int) => rhas_any _ E[j] v W (hSd.since stR k) (right_len gE.1) (okF_bd gE.1 (Int.le_refl _)))
            rw [hdE] at TJ
            have CD := Lib.hid (fun (W : World) (k : Since w6 W) => show W.cell? ⟨g, j, none⟩ = some (.slice B3 E[j].length cB) from by
              have := (k.cell _ (World.block_lt_of_cell? _ _ e0d)).trans e0d
              simpa using this)
            generalize E[j] = dj at *
            generalize dj.length = dl at *
            clear gE hdE hSd e0d hj hxl
            subst hX0
            go_wp2
            clear ep
            go_loopw [12] (fun v wr4 => ∃ (V : Nat), v = .int .i64 (V : Int) ∧ V ≤ 2 ∧ Hid (Since w6 wr4)) (fun v _ => 2 - (intOf v).toNat)
            case atStart => exact ⟨0, rfl, by omega, HX6⟩
            case round =>
              obtain ⟨V, rfl, hV, HW4⟩ := hrel
              have KW := Lib.hid HW4.out
              by_cases hV2 : V < 2
              · have hV1 : (V : Int) ≤ 1 := by omega
                go_wp2
                go_loopw [13, 77] (fun f i wr5 => ∃ (q : Nat), i = .int .i64 (q : Int) ∧ q ≤ m6 ∧ f = .bool ((LL.take q).any (fun a => valAt a (j : Int) == (V : Int))) ∧ Hid (Since w6 wr5)) (fun _ i _ => m6 - (intOf i).toNat)
                case atStart => exact ⟨0, rfl, Nat.zero_le _, by simp, KW⟩
                case round =>
                  obtain ⟨q, rfl, hq, rfl, HV⟩ := hrel
                  by_cases hqm : q < m6
                  · have hql : q < LL.length := by have := HLM.out; omega
                    obtain ⟨gl, ol, BL, cl, hA6, hSL, el2⟩ := elL (HL.out.since stL HV.out) hql
                    have hal : LL[q].length = n := HLW.out _ (List.getElem_mem hql)
                    have hxl2 : j < LL[q].length := by omega
                    obtain ⟨gv, ov, rfl, ev⟩ := elI hSL hxl2
                    have hva : valAt LL[q] (j : Int) = LL[q][j] := by simp [valAt, hxl2]
                    have N1 := Lib.hid (show (LL.take (q + 1)).any (fun a => valAt a (j : Int) == (V : Int)) = ((LL.take q).any (fun a => valAt a (j : Int) == (V : Int)) || (LL[q][j] == (V : Int))) by rw [List.take_succ_eq_append_getElem hql, List.any_append]; simp [hva])
                    rw [hal] at el2
                    generalize LL[q][j] = y at *
                    generalize (LL.take q).any (fun a => valAt a (j : Int) == (V : Int)) = f1 at *
                    clear hSL hva
                    subst hA6
                    cases f1 with
                    | true =>
                      go_wp2
                      go_roundw
                      case rel => exact ⟨q + 1, by go_num, by omega, by rw [N1.out]; simp, HV⟩
                      case measure => simp [intOf]; omega
                    | false =>
                      by_cases ce : y = (V : Int)
                      all_goals
                        go_wp2
                        go_roundw
                        case rel => exact ⟨q + 1, by go_num, by omega, by rw [N1.out]; simp [ce], HV⟩
                        case measure => simp [intOf]; omega
                  · obtain rfl : q = m6 := by omega
                    rw [List.take_of_length_le (by have := HLM.out; omega)]
                    have TV := Lib.hid (TJ.out (V : Int))
                    have HHV := Lib.hid (HH.out _ HV.out (V : Int))
                    have cd := CD.out _ HV.out
                    generalize LL.any (fun a => valAt a (j : Int) == (V : Int)) = f1 at *
                    generalize has dj (V : Int) = hb at *
                    cases hb with
                    | false =>
                      go_wp2_with (go_at_call 26; (with_reducible refine (HHV.out).mono ?_); rintro e w8 ⟨rfl, k8⟩; have K8 := Lib.hid (HV.out.trans k8); clear k8)
                      go_roundw
                      case rel => exact ⟨V + 1, by go_num, by omega, K8⟩
                      case measure => simp [intOf]; omega
                    | true =>
                      obtain rfl : f1 = true := TV.out rfl
                      go_wp2_with (go_at_call 26; (with_reducible refine (HHV.out).mono ?_); rintro e w8 ⟨rfl, k8⟩; have K8 := Lib.hid (HV.out.trans k8); clear k8)
                      go_roundw
                      case rel => exact ⟨V + 1, by go_num, by omega, K8⟩
                      case measure => simp [intOf]; omega
              · have hV1 : ¬ (V : Int) ≤ 1 := by omega
                go_wp2
                go_roundw
                case rel => exact ⟨x + 1, by go_num, by omega, KW⟩
                case measure => simp [intOf]; omega
          · obtain rfl : x = p := by omega
            go_wp2
            go_ret
            exact ⟨rfl, T6.out.trans HX6.out⟩

set_option maxRecDepth 100000 in
theorem lifted (os : Os) (started : os.Started) (H : Type) (enc : TypeId × Value → H) :
    ReturnsInHanded {} Try.checked os 6 .any (Rows.logicAllSpec.pre6 enc Try.prog Try.f6 Rows.logicAllRow.domain false) (Rows.logicAllSpec.post enc Try.prog Try.f6 false true false false) := by
  refine returnsInHanded_of_change (C := Try.checked) own started (by kernel_rfl) Try.func6
    (ChangeSpec.witness6 (enc := enc) (C := Try.checked) false ⟨#[], #[.agg #[.int .i64 0, .slice none 0 0, .slice none 0 0, .int .i64 0], .slice none 0 0], []⟩ 8 (by kernel_rfl) (by kernel_rfl) (by kernel_rfl) (by kernel_rfl)) ?_
  intro W base args ds gs before hval0 hW hcnd _
  have hval : ∀ (j : Nat) t v, Try.f6.params[j]? = some t → args[j]? = some v → Value.okWide Try.prog W .any base t v := hval0
  have hW' := hW
  obtain ⟨p, q, hA0, hV, rfl, hfz, hnd⟩ := hW
  have hA : DataW.TrodAll enc Try.prog W 0 (fun _ => true) true Try.f6.params.toList args.toList ds p := hA0
  rw [Try.params6] at hA hval
  obtain ⟨v0, vs0, d0, ds0, p0, q0, hargs, rfl, rfl, h0, r0⟩ := trodAll_cons hA
  obtain ⟨v1, vs1, d1, ds1, p1, q1, rfl, rfl, rfl, h1, r1⟩ := trodAll_cons r0
  obtain ⟨rfl, rfl, rfl⟩ := trodAll_nil r1
  obtain rfl : args = #[v0, v1] := by cases args; simp_all
  obtain ⟨rfl, rfl⟩ := trodVars_none hV
  obtain ⟨k0k, X0, n0, xc0, Y0, m0, yc0, e0, rfl, z0, w0⟩ := Go.Proofs.Ytilgmkhcpmegjaa.Sn.con_in ⟨Try.underlying25, ⟨rfl, rfl, rfl, rfl⟩, ⟨by kernel_rfl, by kernel_rfl, by kernel_rfl, by kernel_rfl⟩, Try.underlying3, Try.underlying22, Try.underlying23, Try.underlying2, Try.underlying3, by kernel_rfl, Try.underlying2, by kernel_rfl⟩ (by kernel_rfl) (hval 0 25 v0 rfl rfl) h0
  have k0 := h0
  have lt0 : ∀ x ∈ p0, x.block < W.heap.size := by obtain ⟨m, hm⟩ := k0; exact DataW.trod_lt m _ _ _ hm
  obtain ⟨a1, len1, cap1, rfl⟩ := okWide_slice Try.underlying26 (hval 1 26 v1 rfl rfl)
  have k1 := h1
  have lt1 : ∀ x ∈ p1, x.block < W.heap.size := by obtain ⟨m, hm⟩ := k1; exact DataW.trod_lt m _ _ _ hm
  obtain ⟨z1, w1⟩ : ∃ zs, Go.Proofs.Ytilgmkhcpmegjaa.Tr.DomsIn W a1 len1 cap1 zs := by
    obtain ⟨fuel, hf⟩ := h1
    exact Go.Proofs.Ytilgmkhcpmegjaa.Tr.doms_in Try.underlying26 (by kernel_rfl) Try.underlying43 Try.underlying46 (by kernel_rfl) rfl rfl (by kernel_rfl) (by kernel_rfl) Try.underlying2 Try.underlying2 hf
  clear hA0 hval0
  refine (walk k0k X0 n0 xc0 Y0 m0 yc0 e0 z0 a1 len1 cap1 z1 W w0 w1).mono fun e W' ⟨he, bel⟩ => ?_
  subst he
  exact ⟨_, rfl, _, _, _, [], _, [], hW', trodAll_mk1 (shut_bool Try.underlying4 _), (trodAll_cons_mk (Below.trod laidOut (by kernel_rfl) (of_decide_eq_true (by kernel_rfl)) k0 bel lt0) (trodAll_cons_mk (Below.trod laidOut (by kernel_rfl) (of_decide_eq_true (by kernel_rfl)) k1 bel lt1) trodAll_mk0)), rfl, bel.frame _, fun h => by cases h⟩

theorem over : Rows.logicAllRow.holds Try.pinned (OpenSpec.ofChange Rows.logicAllSpec) :=
  OpenClaim.holds_of_wide 6 Try.f6 rfl rfl rfl rfl rfl rfl rfl ⟨rfl, rfl, rfl, rfl, rfl⟩ rfl rfl rfl rfl rfl (by kernel_rfl) Try.func6 (by kernel_rfl)
    (of_decide_eq_true (by kernel_rfl)) (by unfold Func.isWrapper; first | (rw [if_pos (by decide +kernel)]; kernel_rfl) | (rw [if_neg (by decide +kernel)]; exact ⟨rfl, rfl⟩))
    (fun os started H enc _ => lifted os started H enc)

/-- THE STATEMENT -/
theorem proved : Rows.LogicAllSaid := over
#print axioms proved
end Go.Proofs.Ytilgmkhcpmegjaa.logicAll
