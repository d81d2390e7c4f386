/-
  For all constraints, places and turns: the law SenseTurned returns true (a sum's numbers, all times -1, turn nothing where it has to be, or may not be, a number; a list of unlike values, or of tasks, hangs on no order). No condition.
-/
import Derived.Test.YtfcinefmnigacaaRows
import Derived.WalkKit
import Derived.ProofKit
import Derived.OpenShut
import Derived.ShutString
import Derived.ChangeOld
import Derived.Below
import Derived.Test.YtfcinefmnigacaaUz
import Derived.Test.YtfcinefmnigacaaKh
namespace Go.Proofs.Ytfcinefmnigacaa.senseTurned
open Go.ChangeShapes Go.WideShapes Go.ChangeAt Go.RowKit
open Go.ChangeMaps (open_string shut_string)
open Go.Proofs.Ytfcinefmnigacaa.Dig Go.Proofs.Ytfcinefmnigacaa.Zs Go.Proofs.Ytfcinefmnigacaa.Tr Go.Proofs.Ytfcinefmnigacaa.Sn
open Go.Proofs.Ytfcinefmnigacaa.Ti (Sl QR stR)
open Go.Proofs.Ytfcinefmnigacaa.Lx
set_option linter.unusedVariables false

theorem own : ownKnob Try.prog.godebug = none := by kernel_rfl
theorem laidOut : laidOutB Try.prog = true := by kernel_rfl

/-- WHAT THE WALK IS TOLD OF A SLICE OF INTEGERS THAT CAME IN: it is nil; or it leads to a row of 'cap' cells, the numbers 'zs' (the first 'len' are its elements, the rest its spare room), each fitting its kind. -/
def IsRow (k : IntKind) (w : World) (a : Option Addr) (len cap : Nat) (zs : List Int) : Prop :=
  (a = none ∧ len = 0 ∧ cap = 0 ∧ zs = []) ∨
  ∃ x, a = some x ∧ len ≤ cap ∧ cap ≤ maxLen ∧ zs.length = cap ∧ (∀ i, i < zs.length → w.cell? (x.add i) = some (.int k (zs.getD i 0))) ∧ ∀ n ∈ zs, (Lit.int k n).wf = true

set_option maxRecDepth 100000 in
set_option maxHeartbeats 3000000 in
theorem walk (k0k : Int) (X0 : Option Addr) (n0 xc0 : Nat) (Y0 : Option Addr) (m0 yc0 : Nat) (e0 : Int) (z0 : Go.Proofs.Ytfcinefmnigacaa.Sn.Cn) (a1 : Option Addr) (len1 cap1 : Nat) (z1 : List Int) (a2 : Int) (w : World) (w0 : Go.Proofs.Ytfcinefmnigacaa.Sn.ConIn w k0k X0 n0 xc0 Y0 m0 yc0 e0 z0) (w1 : Go.Proofs.Ytfcinefmnigacaa.Sn.IntsIn w a1 len1 cap1 z1) (w2 : (Lit.int .u8 a2).wf = true) :
    Calls Try.prog 6 #[.agg #[.int .i64 k0k, .slice X0 n0 xc0, .slice Y0 m0 yc0, .int .i64 e0], .slice a1 len1 cap1, .int .u8 a2] w fun e w' => e = .returned (.bool true) ∧ Since w w' := by
  obtain ⟨hC, hBC, hcx, hca⟩ := w0
  obtain ⟨hl1, hA, hBA, hlA⟩ := w1
  obtain ⟨q, rfl, hq⟩ : ∃ q : Nat, a2 = (q : Int) ∧ q ≤ 255 := by have := w2; simp [Lit.wf, IntKind.min, IntKind.max, IntKind.signed, IntKind.bits] at this; exact ⟨a2.toNat, by omega, by omega⟩
  clear w2
  have AL := Lib.hid alive_any
  obtain ⟨hk0, he0, hX, hY, hn, hm⟩ := con_open hC
  have HK0 := Lib.hid hk0
  have HE0 := Lib.hid he0
  have HN := Lib.hid hn
  have HM := Lib.hid hm
  clear hk0 he0 hn hm
  have FI := Lib.hid (fun W (k : Since w W) => fits_any _ _ z0 z1 W (hC.since k) (hA.since stI k) (mlen hcx) (mlen hca) (mlen hlA))
  obtain ⟨f, hf⟩ : ∃ f, fitsL z0 z1 = f := ⟨_, rfl⟩
  rw [hf] at FI
  have S0 := Lib.hid (since_alloc w (.cells #[.int .i64 k0k, .slice X0 n0 xc0, .slice Y0 m0 yc0, .int .i64 e0] 25))
  have B0 := Lib.hid (Bx.fresh w #[.int .i64 k0k, .slice X0 n0 xc0, .slice Y0 m0 yc0, .int .i64 e0] 25)
  have HX := Lib.hid hX
  have HY := Lib.hid hY
  have HA := Lib.hid hA
  have HL1 := Lib.hid hl1
  cases f with
  | false =>
    clear hf hC hA hX hY hl1
    go_enter Try.func6, Try.ntmps6
    go_wp2_with (first | (go_at_call 10; (with_reducible refine (AL.out _).mono ?_); rintro e w1 ⟨rfl, k1⟩; have K1 := Lib.hid k1; have T1 := Lib.hid (S0.out.trans k1); obtain ⟨b0, b1, b2, b3⟩ := bx4 (B0.out.since k1); clear k1) | (go_at_call 11; (with_reducible refine (FI.out _ T1.out).mono ?_); rintro e w2 ⟨rfl, k2⟩; have T2 := Lib.hid (T1.out.trans k2); have U2 := Lib.hid (K1.out.trans k2); clear k2; obtain ⟨b0, b1, b2, b3⟩ := bx4 (B0.out.since U2.out); have aa : ∀ cs t, _ := fun cs t => bx4 ((B0.out.since U2.out).since (since_alloc w2 (.cells cs t))); obtain ⟨al0, al1, al2, al3⟩ : (∀ cs t, (w2.alloc (.cells cs t)).cell? ⟨w.heap.size, 0, none⟩ = some _) ∧ (∀ cs t, (w2.alloc (.cells cs t)).cell? ⟨w.heap.size, 1, none⟩ = some _) ∧ (∀ cs t, (w2.alloc (.cells cs t)).cell? ⟨w.heap.size, 2, none⟩ = some _) ∧ (∀ cs t, (w2.alloc (.cells cs t)).cell? ⟨w.heap.size, 3, none⟩ = some _) := ⟨fun cs t => (aa cs t).1, fun cs t => (aa cs t).2.1, fun cs t => (aa cs t).2.2.1, fun cs t => (aa cs t).2.2.2⟩; clear aa))
    go_ret
    exact ⟨rfl, T2.out⟩
  | true =>
    obtain ⟨hf1, hf2, hf3⟩ := fitsL_parts hf
    clear hf
    obtain ⟨R, hR⟩ : ∃ R, holds z0 z1 = R := ⟨_, rfl⟩
    have HH := Lib.hid (fun W k => holds_at hC hA (by omega) (by omega) hR W k)
    have HR := Lib.hid hR
    have TI := Lib.hid (fun W (k : Since w W) => show Calls Try.prog 22 #[.slice X0 n0 xc0, .int .u8 (q : Int)] W (fun e w' => ∃ B bc, e = .returned (.slice B n0 bc) ∧ Rq 3 QI0 W w' (.slice B n0 bc) (rot z0.x q)) by have := turned_int _ z0.x q W (hX.since stI k) (by omega) hq; rw [← HN.out] at this; exact this)
    have HF2 := Lib.hid hf2
    have HF3 := Lib.hid hf3
    have HF1 := Lib.hid hf1
    have hm0 : m0 ≤ 200 := by have := HM.out; omega
    have hn0 : n0 ≤ 200 := by have := HN.out; omega
    clear hR hf1 hf2 hf3 hBA hBC hcx hca hlA hC hA hX hY hl1
    by_cases hk : k0k = 1 ∨ k0k = 3 ∨ k0k = 18 ∨ k0k = 19
    case neg =>
      obtain ⟨hk1, hk2, hk3, hk4⟩ : k0k ≠ 1 ∧ k0k ≠ 3 ∧ k0k ≠ 18 ∧ k0k ≠ 19 := ⟨fun h => hk (.inl h), fun h => hk (.inr (.inl h)), fun h => hk (.inr (.inr (.inl h))), fun h => hk (.inr (.inr (.inr h)))⟩
      clear hk
      go_enter Try.func6, Try.ntmps6
      go_wp2_with (first | (go_at_call 10; (with_reducible refine (AL.out _).mono ?_); rintro e w1 ⟨rfl, k1⟩; have K1 := Lib.hid k1; have T1 := Lib.hid (S0.out.trans k1); obtain ⟨b0, b1, b2, b3⟩ := bx4 (B0.out.since k1); clear k1) | (go_at_call 11; (with_reducible refine (FI.out _ T1.out).mono ?_); rintro e w2 ⟨rfl, k2⟩; have T2 := Lib.hid (T1.out.trans k2); have U2 := Lib.hid (K1.out.trans k2); clear k2; obtain ⟨b0, b1, b2, b3⟩ := bx4 (B0.out.since U2.out); have aa : ∀ cs t, _ := fun cs t => bx4 ((B0.out.since U2.out).since (since_alloc w2 (.cells cs t))); obtain ⟨al0, al1, al2, al3⟩ : (∀ cs t, (w2.alloc (.cells cs t)).cell? ⟨w.heap.size, 0, none⟩ = some _) ∧ (∀ cs t, (w2.alloc (.cells cs t)).cell? ⟨w.heap.size, 1, none⟩ = some _) ∧ (∀ cs t, (w2.alloc (.cells cs t)).cell? ⟨w.heap.size, 2, none⟩ = some _) ∧ (∀ cs t, (w2.alloc (.cells cs t)).cell? ⟨w.heap.size, 3, none⟩ = some _) := ⟨fun cs t => (aa cs t).1, fun cs t => (aa cs t).2.1, fun cs t => (aa cs t).2.2.1, fun cs t => (aa cs t).2.2.2⟩; clear aa))
      go_ret
      exact ⟨rfl, T2.out.trans (since_alloc _ _)⟩
    rcases hk with rfl | rfl | rfl | rfl
    · skip
      go_enter Try.func6, Try.ntmps6
      go_wp2_with (first | (go_at_call 10; (with_reducible refine (AL.out _).mono ?_); rintro e w1 ⟨rfl, k1⟩; have K1 := Lib.hid k1; have T1 := Lib.hid (S0.out.trans k1); obtain ⟨b0, b1, b2, b3⟩ := bx4 (B0.out.since k1); clear k1) | (go_at_call 11; (with_reducible refine (FI.out _ T1.out).mono ?_); rintro e w2 ⟨rfl, k2⟩; have T2 := Lib.hid (T1.out.trans k2); have U2 := Lib.hid (K1.out.trans k2); clear k2; obtain ⟨b0, b1, b2, b3⟩ := bx4 (B0.out.since U2.out); have aa : ∀ cs t, _ := fun cs t => bx4 ((B0.out.since U2.out).since (since_alloc w2 (.cells cs t))); obtain ⟨al0, al1, al2, al3⟩ : (∀ cs t, (w2.alloc (.cells cs t)).cell? ⟨w.heap.size, 0, none⟩ = some _) ∧ (∀ cs t, (w2.alloc (.cells cs t)).cell? ⟨w.heap.size, 1, none⟩ = some _) ∧ (∀ cs t, (w2.alloc (.cells cs t)).cell? ⟨w.heap.size, 2, none⟩ = some _) ∧ (∀ cs t, (w2.alloc (.cells cs t)).cell? ⟨w.heap.size, 3, none⟩ = some _) := ⟨fun cs t => (aa cs t).1, fun cs t => (aa cs t).2.1, fun cs t => (aa cs t).2.2.1, fun cs t => (aa cs t).2.2.2⟩; clear aa))
      obtain ⟨w3, hw3⟩ : ∃ w3, w3 = w2.alloc (.cells #[.int .i64 1, .slice X0 n0 xc0, .slice Y0 m0 yc0, .int .i64 e0] 25) := ⟨_, rfl⟩
      rw [← hw3]
      have S3 := Lib.hid (show Since w2 w3 by rw [hw3]; exact since_alloc _ _)
      have D3 := Lib.hid (show Bx w3 w2.heap.size #[.int .i64 1, .slice X0 n0 xc0, .slice Y0 m0 yc0, .int .i64 e0] 25 by rw [hw3]; exact Bx.fresh _ _ _)
      have HLT := Lib.hid (show w2.heap.size < w3.heap.size by rw [hw3]; simp)
      have HNE := Lib.hid (show w.heap.size ≠ w2.heap.size by have := U2.out.size; simp at this; omega)
      have HGE := Lib.hid (show w.heap.size ≤ w2.heap.size from T2.out.size)
      have HGB := Lib.hid (show (w.alloc (.cells #[.int .i64 1, .slice X0 n0 xc0, .slice Y0 m0 yc0, .int .i64 e0] 25)).heap.size ≤ w2.heap.size from U2.out.size)
      clear hw3 al0 al1 al2 al3
      go_loopw [8, 28] (fun s i wr => ∃ (j : Nat) (B : Option Addr) (bc : Nat), i = .int .i64 (j : Int) ∧ s = .slice B j bc ∧ j ≤ m0 ∧ Hid ((z0.a.take j).all within = true) ∧ Hid (Rq 2 QI0 w3 wr (.slice B j bc) (negL (z0.a.take j)))) (fun _ i _ => m0 - (intOf i).toNat)
      case atStart => exact ⟨0, none, 0, rfl, rfl, Nat.zero_le _, rfl, Rq.nil _ _ (Since.refl _)⟩
      case round =>
        obtain ⟨j, B, bc, rfl, rfl, hj, HW, HQ⟩ := hrel
        by_cases hjn : j < m0
        · skip
          have hjl : j < z0.a.length := by have := HM.out; omega
          obtain ⟨g, o, rfl, e0'⟩ := elI (HY.out.since stI (T2.out.trans (S3.out.trans HQ.out.s))) hjl
          have hs := negL_snoc hjl
          have hwn : within z0.a[j] = true → (z0.a.take (j + 1)).all within = true := fun h => by rw [List.take_succ_eq_append_getElem hjl, List.all_append, HW.out]; simp [h]
          have hlj : (negL (z0.a.take j)).length = j := by rw [negL, List.length_map, List.length_take]; omega
          generalize z0.a[j] = y at *
          have HS := Lib.hid hs
          have HWN := Lib.hid hwn
          have HLJ := Lib.hid hlj
          have HLX := Lib.hid (show (negL (z0.a.take j)).length ≤ 1000000 by omega)
          clear hs hwn hlj hjl
          by_cases y1 : y < -1048576
          · skip
            go_wp2
            go_ret
            exact ⟨rfl, T2.out.trans (S3.out.trans HQ.out.s)⟩
          by_cases y2 : y > 1048576
          · skip
            go_wp2
            go_ret
            exact ⟨rfl, T2.out.trans (S3.out.trans HQ.out.s)⟩
          have HAW := Lib.hid (HWN.out ((within_iff2 y).2 ⟨by omega, by omega⟩))
          clear HWN
          go_wp2_with (at_builtin; refine wpList_appQ nL (HQ.out.since (since_alloc _ _)) HLX.out (-y) (.int .i64 (-y)) rfl rfl wr.heap.size 1 ((Bx.fresh wr _ _).cell 0) (by rfl) _ _ rfl rfl rfl ?_; rw [HLJ.out]; intro A2 c2 w6 h2 q2; have H2 := Lib.hid h2; clear h2 q2)
          go_roundw
          case rel => exact ⟨j + 1, A2, c2, by go_num, by first | rfl | go_num, by omega, HAW, by rw [HS.out] at H2; exact H2⟩
          case measure => simp [intOf]; omega
        · skip
          obtain rfl : m0 = j := by omega
          have HTA := Lib.hid (show z0.a.take m0 = z0.a from List.take_of_length_le (by have := HM.out; omega))
          have HQ2 := Lib.hid (show Rq 2 QI0 w3 wr (.slice B m0 bc) (negL z0.a) by have := HQ.out; rw [HTA.out] at this; exact this)
          have Ur := Lib.hid (U2.out.trans (S3.out.trans HQ2.out.s))
          have Dr := Lib.hid (D3.out.since HQ2.out.s)
          obtain ⟨b0, b1, b2, b3⟩ := bx4 (B0.out.since Ur.out)
          obtain ⟨d0, d1, d2, d3⟩ := bx4 Dr.out
          obtain ⟨f0, f1, f2, f3⟩ := bx4' Dr.out
          have B6 := Lib.hid ((B0.out.since Ur.out).other HNE.out 2 (.slice B m0 bc))
          have D6 := Lib.hid (bxset Dr.out 2 (.slice B m0 bc) rfl)
          obtain ⟨p0, p1, p2, p3⟩ := bx4 B6.out
          obtain ⟨r0, r1, r2, r3⟩ := bx4 D6.out
          obtain ⟨s0, s1, s2, s3⟩ := bx4' D6.out
          have K6 := Lib.hid (show Since w2 (wr.setCell ⟨w2.heap.size, 2, none⟩ (.slice B m0 bc)) from (S3.out.trans HQ2.out.s).set (p := ⟨w2.heap.size, 2, none⟩) (Nat.le_refl _) _)
          clear HQ HW
          by_cases e1 : e0 < -1048576
          · skip
            go_wp2
            go_ret
            exact ⟨rfl, T2.out.trans K6.out⟩
          by_cases e2 : e0 > 1048576
          · skip
            go_wp2
            go_ret
            exact ⟨rfl, T2.out.trans K6.out⟩
          go_wp2
          obtain ⟨w5, hw5⟩ : ∃ w5, w5 = (wr.setCell ⟨w2.heap.size, 2, none⟩ (.slice B m0 bc)).setCell ⟨w2.heap.size, 3, none⟩ (.int .i64 (-e0)) := ⟨_, rfl⟩
          rw [← hw5]
          have K5 := Lib.hid (show Since w2 w5 by rw [hw5]; exact K6.out.set (p := ⟨w2.heap.size, 3, none⟩) (Nat.le_refl _) _)
          have D5 := Lib.hid (show Bx w5 w2.heap.size #[.int .i64 1, .slice X0 n0 xc0, .slice B m0 bc, .int .i64 (-e0)] 25 by rw [hw5]; exact bxset D6.out 3 (.int .i64 (-e0)) rfl)
          have SB := Lib.hid (show Sl 1 QI w5 (.slice B m0 bc) (negL z0.a) by rw [hw5]; exact (((Rz.of HQ2.out).set (a := ⟨w2.heap.size, 2, none⟩) HLT.out _).set (a := ⟨w2.heap.size, 3, none⟩) HLT.out _).sl)
          have T5 := Lib.hid (T2.out.trans K5.out)
          have U5 := Lib.hid (U2.out.trans K5.out)
          have CD := Lib.hid (show ConAt w5 (.agg #[.int .i64 1, .slice X0 n0 xc0, .slice B m0 bc, .int .i64 (-e0)]) ⟨z0.k, z0.x, negL z0.a, -z0.c⟩ from ⟨.slice X0 n0 xc0, .slice B m0 bc, by rw [← HK0.out, ← HE0.out], HX.out.since stI T5.out, SB.out⟩)
          have HD := Lib.hid (fun W k => holds_at CD.out (HA.out.since stI T5.out) (by simp only [negL, List.length_map]; have := HF2.out; omega) (by have := HF3.out; omega) ((neg_same (by have := HK0.out; omega)).trans HR.out) W k)
          clear hw5 b0 b1 b2 b3 d0 d1 d2 d3 f0 f1 f2 f3 p0 p1 p2 p3 r0 r1 r2 r3 s0 s1 s2 s3 B6 D6 K6 Dr Ur HQ2 HTA
          have hr0 : Since w5 w5.drew := Since.drew (Since.refl w5)
          refine wp_region_noPanic ?_
          refine Reg.wp_region_G (S := fun _ => True) (fun j => [].contains j) (by kernel_rfl) trivial ?_
          refine' Reg.wpG_take (i := 0) (oi := { dst := some 100, op := Op.load 25 (Operand.tmp 7), type := 25, pos := "law.go:112", after := #[], guard := none }) (v := _) [2, 5, 6, 7] [] rfl rfl (by kernel_rfl) (by kernel_rfl) (by kernel_rfl) (by kernel_rfl) (by kernel_rfl) (by kernel_rfl) (by kernel_rfl) (fun _ _ _ h => h) (Or.inl ⟨by rfl, Or.inl ?hy2⟩) ?rest2
          case hy2 => (intro w' kk ss; obtain ⟨x0, x1, x2', x3⟩ := bx4 (B0.out.since (U5.out.trans (hr0.trans kk))); obtain ⟨y0, y1, y2', y3⟩ := bx4 (D5.out.since (hr0.trans kk)); go_simp; first | done | with_reducible rfl)
          try simp only [Act.put, List.setIfInBounds_toArray, List.set_cons_zero, List.set_cons_succ]
          refine' Reg.wpG_take (i := 1) (oi := { dst := some 101, op := Op.move (Operand.tmp 1), type := 23, pos := "law.go:112", after := #[], guard := none }) (v := _) [2, 5, 6, 7] [] rfl rfl (by kernel_rfl) (by kernel_rfl) (by kernel_rfl) (by kernel_rfl) (by kernel_rfl) (by kernel_rfl) (by kernel_rfl) (fun _ _ _ h => h) (Or.inl ⟨by rfl, Or.inl ?hy3⟩) ?rest3
          case hy3 => (intro w' kk ss; obtain ⟨x0, x1, x2', x3⟩ := bx4 (B0.out.since (U5.out.trans (hr0.trans kk))); obtain ⟨y0, y1, y2', y3⟩ := bx4 (D5.out.since (hr0.trans kk)); go_simp; first | done | with_reducible rfl)
          try simp only [Act.put, List.setIfInBounds_toArray, List.set_cons_zero, List.set_cons_succ]
          refine Reg.wpG_take (i := 2) (oi := { dst := some 102, op := Op.call { callee := Callee.value (Operand.func 14), args := #[Operand.tmp 100, Operand.tmp 101], argTypes := #[25, 23] }, type := 4, pos := "law.go:112", after := #[{ on := 0, ground := Ground.data }, { on := 1, ground := Ground.data }], guard := none }) (v := .bool R) [5, 6, 7] [] rfl rfl (by kernel_rfl) (by kernel_rfl) (by kernel_rfl) (by kernel_rfl) (by kernel_rfl) (by kernel_rfl) (by kernel_rfl) (fun _ _ _ h => h) (Or.inl ⟨by rfl, Or.inr ⟨14, #[.agg #[.int .i64 1, .slice X0 n0 xc0, .slice B m0 bc, .int .i64 (-e0)], .slice a1 len1 cap1], fun w' kk ss => ⟨?_, ?_⟩⟩⟩) ?_
          · (try dsimp only at ss); go_simp
          · exact HD.out w' (hr0.trans kk)
          try simp only [Act.put, List.setIfInBounds_toArray, List.set_cons_zero, List.set_cons_succ]
          refine' Reg.wpG_take (i := 3) (oi := { dst := some 103, op := Op.load 25 (Operand.tmp 3), type := 25, pos := "law.go:112", after := #[], guard := none }) (v := _) [5, 6, 7] [] rfl rfl (by kernel_rfl) (by kernel_rfl) (by kernel_rfl) (by kernel_rfl) (by kernel_rfl) (by kernel_rfl) (by kernel_rfl) (fun _ _ _ h => h) (Or.inl ⟨by rfl, Or.inl ?hy4⟩) ?rest4
          case hy4 => (intro w' kk ss; obtain ⟨x0, x1, x2', x3⟩ := bx4 (B0.out.since (U5.out.trans (hr0.trans kk))); obtain ⟨y0, y1, y2', y3⟩ := bx4 (D5.out.since (hr0.trans kk)); go_simp; first | done | with_reducible rfl)
          try simp only [Act.put, List.setIfInBounds_toArray, List.set_cons_zero, List.set_cons_succ]
          refine' Reg.wpG_take (i := 4) (oi := { dst := some 104, op := Op.move (Operand.tmp 1), type := 23, pos := "law.go:112", after := #[], guard := none }) (v := _) [5, 6, 7] [] rfl rfl (by kernel_rfl) (by kernel_rfl) (by kernel_rfl) (by kernel_rfl) (by kernel_rfl) (by kernel_rfl) (by kernel_rfl) (fun _ _ _ h => h) (Or.inl ⟨by rfl, Or.inl ?hy5⟩) ?rest5
          case hy5 => (intro w' kk ss; obtain ⟨x0, x1, x2', x3⟩ := bx4 (B0.out.since (U5.out.trans (hr0.trans kk))); obtain ⟨y0, y1, y2', y3⟩ := bx4 (D5.out.since (hr0.trans kk)); go_simp; first | done | with_reducible rfl)
          try simp only [Act.put, List.setIfInBounds_toArray, List.set_cons_zero, List.set_cons_succ]
          refine Reg.wpG_take (i := 5) (oi := { dst := some 105, op := Op.call { callee := Callee.value (Operand.func 14), args := #[Operand.tmp 103, Operand.tmp 104], argTypes := #[25, 23] }, type := 4, pos := "law.go:112", after := #[{ on := 3, ground := Ground.data }, { on := 4, ground := Ground.data }, { on := 2, ground := Ground.chain }], guard := none }) (v := .bool R) [6, 7] [] rfl rfl (by kernel_rfl) (by kernel_rfl) (by kernel_rfl) (by kernel_rfl) (by kernel_rfl) (by kernel_rfl) (by kernel_rfl) (fun _ _ _ h => h) (Or.inl ⟨by rfl, Or.inr ⟨14, #[.agg #[.int .i64 1, .slice X0 n0 xc0, .slice Y0 m0 yc0, .int .i64 e0], .slice a1 len1 cap1], fun w' kk ss => ⟨?_, ?_⟩⟩⟩) ?_
          · (try dsimp only at ss); go_simp
          · exact HH.out w' (T5.out.trans (hr0.trans kk))
          try simp only [Act.put, List.setIfInBounds_toArray, List.set_cons_zero, List.set_cons_succ]
          refine' Reg.wpG_take (i := 6) (oi := { dst := some 106, op := Op.binOp BinOp.eql 4 (Operand.tmp 102) (Operand.tmp 105) 4, type := 4, pos := "law.go:112", after := #[{ on := 2, ground := Ground.data }, { on := 5, ground := Ground.data }], guard := none }) (v := _) [7] [] rfl rfl (by kernel_rfl) (by kernel_rfl) (by kernel_rfl) (by kernel_rfl) (by kernel_rfl) (by kernel_rfl) (by kernel_rfl) (fun _ _ _ h => h) (Or.inl ⟨by rfl, Or.inl ?hy6⟩) ?rest6
          case hy6 => (intro w' kk ss; obtain ⟨x0, x1, x2', x3⟩ := bx4 (B0.out.since (U5.out.trans (hr0.trans kk))); obtain ⟨y0, y1, y2', y3⟩ := bx4 (D5.out.since (hr0.trans kk)); go_simp; first | done | with_reducible rfl)
          try simp only [Act.put, List.setIfInBounds_toArray, List.set_cons_zero, List.set_cons_succ]
          refine' Reg.wpG_take (i := 7) (oi := { dst := some 6, op := Op.assign (Operand.tmp 106), type := 4, pos := "law.go:112", after := #[{ on := 6, ground := Ground.data }, { on := 5, ground := Ground.chain }, { on := 0, ground := Ground.phase }, { on := 1, ground := Ground.phase }, { on := 2, ground := Ground.phase }, { on := 3, ground := Ground.phase }, { on := 4, ground := Ground.phase }, { on := 5, ground := Ground.phase }, { on := 6, ground := Ground.phase }], guard := none }) (v := _) [] [] rfl rfl (by kernel_rfl) (by kernel_rfl) (by kernel_rfl) (by kernel_rfl) (by kernel_rfl) (by kernel_rfl) (by kernel_rfl) (fun _ _ _ h => h) (Or.inl ⟨by rfl, Or.inl ?hy7⟩) ?rest7
          case hy7 => (intro w' kk ss; obtain ⟨x0, x1, x2', x3⟩ := bx4 (B0.out.since (U5.out.trans (hr0.trans kk))); obtain ⟨y0, y1, y2', y3⟩ := bx4 (D5.out.since (hr0.trans kk)); go_simp; first | done | with_reducible rfl)
          try simp only [Act.put, List.setIfInBounds_toArray, List.set_cons_zero, List.set_cons_succ]
          refine Reg.wpG_done (by kernel_rfl) (fun we ke se => ?_) _
          refine NoPanic.normal ?_
          have hr0 := hr0.trans ke
          clear ke
          go_wp2
          go_ret
          exact RetT.of (by simp) (T5.out.trans hr0)
    · skip
      go_enter Try.func6, Try.ntmps6
      go_wp2_with (first | (go_at_call 10; (with_reducible refine (AL.out _).mono ?_); rintro e w1 ⟨rfl, k1⟩; have K1 := Lib.hid k1; have T1 := Lib.hid (S0.out.trans k1); obtain ⟨b0, b1, b2, b3⟩ := bx4 (B0.out.since k1); clear k1) | (go_at_call 11; (with_reducible refine (FI.out _ T1.out).mono ?_); rintro e w2 ⟨rfl, k2⟩; have T2 := Lib.hid (T1.out.trans k2); have U2 := Lib.hid (K1.out.trans k2); clear k2; obtain ⟨b0, b1, b2, b3⟩ := bx4 (B0.out.since U2.out); have aa : ∀ cs t, _ := fun cs t => bx4 ((B0.out.since U2.out).since (since_alloc w2 (.cells cs t))); obtain ⟨al0, al1, al2, al3⟩ : (∀ cs t, (w2.alloc (.cells cs t)).cell? ⟨w.heap.size, 0, none⟩ = some _) ∧ (∀ cs t, (w2.alloc (.cells cs t)).cell? ⟨w.heap.size, 1, none⟩ = some _) ∧ (∀ cs t, (w2.alloc (.cells cs t)).cell? ⟨w.heap.size, 2, none⟩ = some _) ∧ (∀ cs t, (w2.alloc (.cells cs t)).cell? ⟨w.heap.size, 3, none⟩ = some _) := ⟨fun cs t => (aa cs t).1, fun cs t => (aa cs t).2.1, fun cs t => (aa cs t).2.2.1, fun cs t => (aa cs t).2.2.2⟩; clear aa))
      obtain ⟨w3, hw3⟩ : ∃ w3, w3 = w2.alloc (.cells #[.int .i64 3, .slice X0 n0 xc0, .slice Y0 m0 yc0, .int .i64 e0] 25) := ⟨_, rfl⟩
      rw [← hw3]
      have S3 := Lib.hid (show Since w2 w3 by rw [hw3]; exact since_alloc _ _)
      have D3 := Lib.hid (show Bx w3 w2.heap.size #[.int .i64 3, .slice X0 n0 xc0, .slice Y0 m0 yc0, .int .i64 e0] 25 by rw [hw3]; exact Bx.fresh _ _ _)
      have HLT := Lib.hid (show w2.heap.size < w3.heap.size by rw [hw3]; simp)
      have HNE := Lib.hid (show w.heap.size ≠ w2.heap.size by have := U2.out.size; simp at this; omega)
      have HGE := Lib.hid (show w.heap.size ≤ w2.heap.size from T2.out.size)
      have HGB := Lib.hid (show (w.alloc (.cells #[.int .i64 3, .slice X0 n0 xc0, .slice Y0 m0 yc0, .int .i64 e0] 25)).heap.size ≤ w2.heap.size from U2.out.size)
      clear hw3 al0 al1 al2 al3
      go_loopw [8, 28] (fun s i wr => ∃ (j : Nat) (B : Option Addr) (bc : Nat), i = .int .i64 (j : Int) ∧ s = .slice B j bc ∧ j ≤ m0 ∧ Hid ((z0.a.take j).all within = true) ∧ Hid (Rq 2 QI0 w3 wr (.slice B j bc) (negL (z0.a.take j)))) (fun _ i _ => m0 - (intOf i).toNat)
      case atStart => exact ⟨0, none, 0, rfl, rfl, Nat.zero_le _, rfl, Rq.nil _ _ (Since.refl _)⟩
      case round =>
        obtain ⟨j, B, bc, rfl, rfl, hj, HW, HQ⟩ := hrel
        by_cases hjn : j < m0
        · skip
          have hjl : j < z0.a.length := by have := HM.out; omega
          obtain ⟨g, o, rfl, e0'⟩ := elI (HY.out.since stI (T2.out.trans (S3.out.trans HQ.out.s))) hjl
          have hs := negL_snoc hjl
          have hwn : within z0.a[j] = true → (z0.a.take (j + 1)).all within = true := fun h => by rw [List.take_succ_eq_append_getElem hjl, List.all_append, HW.out]; simp [h]
          have hlj : (negL (z0.a.take j)).length = j := by rw [negL, List.length_map, List.length_take]; omega
          generalize z0.a[j] = y at *
          have HS := Lib.hid hs
          have HWN := Lib.hid hwn
          have HLJ := Lib.hid hlj
          have HLX := Lib.hid (show (negL (z0.a.take j)).length ≤ 1000000 by omega)
          clear hs hwn hlj hjl
          by_cases y1 : y < -1048576
          · skip
            go_wp2
            go_ret
            exact ⟨rfl, T2.out.trans (S3.out.trans HQ.out.s)⟩
          by_cases y2 : y > 1048576
          · skip
            go_wp2
            go_ret
            exact ⟨rfl, T2.out.trans (S3.out.trans HQ.out.s)⟩
          have HAW := Lib.hid (HWN.out ((within_iff2 y).2 ⟨by omega, by omega⟩))
          clear HWN
          go_wp2_with (at_builtin; refine wpList_appQ nL (HQ.out.since (since_alloc _ _)) HLX.out (-y) (.int .i64 (-y)) rfl rfl wr.heap.size 1 ((Bx.fresh wr _ _).cell 0) (by rfl) _ _ rfl rfl rfl ?_; rw [HLJ.out]; intro A2 c2 w6 h2 q2; have H2 := Lib.hid h2; clear h2 q2)
          go_roundw
          case rel => exact ⟨j + 1, A2, c2, by go_num, by first | rfl | go_num, by omega, HAW, by rw [HS.out] at H2; exact H2⟩
          case measure => simp [intOf]; omega
        · skip
          obtain rfl : m0 = j := by omega
          have HTA := Lib.hid (show z0.a.take m0 = z0.a from List.take_of_length_le (by have := HM.out; omega))
          have HQ2 := Lib.hid (show Rq 2 QI0 w3 wr (.slice B m0 bc) (negL z0.a) by have := HQ.out; rw [HTA.out] at this; exact this)
          have Ur := Lib.hid (U2.out.trans (S3.out.trans HQ2.out.s))
          have Dr := Lib.hid (D3.out.since HQ2.out.s)
          obtain ⟨b0, b1, b2, b3⟩ := bx4 (B0.out.since Ur.out)
          obtain ⟨d0, d1, d2, d3⟩ := bx4 Dr.out
          obtain ⟨f0, f1, f2, f3⟩ := bx4' Dr.out
          have B6 := Lib.hid ((B0.out.since Ur.out).other HNE.out 2 (.slice B m0 bc))
          have D6 := Lib.hid (bxset Dr.out 2 (.slice B m0 bc) rfl)
          obtain ⟨p0, p1, p2, p3⟩ := bx4 B6.out
          obtain ⟨r0, r1, r2, r3⟩ := bx4 D6.out
          obtain ⟨s0, s1, s2, s3⟩ := bx4' D6.out
          have K6 := Lib.hid (show Since w2 (wr.setCell ⟨w2.heap.size, 2, none⟩ (.slice B m0 bc)) from (S3.out.trans HQ2.out.s).set (p := ⟨w2.heap.size, 2, none⟩) (Nat.le_refl _) _)
          clear HQ HW
          by_cases e1 : e0 < -1048576
          · skip
            go_wp2
            go_ret
            exact ⟨rfl, T2.out.trans K6.out⟩
          by_cases e2 : e0 > 1048576
          · skip
            go_wp2
            go_ret
            exact ⟨rfl, T2.out.trans K6.out⟩
          go_wp2
          obtain ⟨w5, hw5⟩ : ∃ w5, w5 = (wr.setCell ⟨w2.heap.size, 2, none⟩ (.slice B m0 bc)).setCell ⟨w2.heap.size, 3, none⟩ (.int .i64 (-e0)) := ⟨_, rfl⟩
          rw [← hw5]
          have K5 := Lib.hid (show Since w2 w5 by rw [hw5]; exact K6.out.set (p := ⟨w2.heap.size, 3, none⟩) (Nat.le_refl _) _)
          have D5 := Lib.hid (show Bx w5 w2.heap.size #[.int .i64 3, .slice X0 n0 xc0, .slice B m0 bc, .int .i64 (-e0)] 25 by rw [hw5]; exact bxset D6.out 3 (.int .i64 (-e0)) rfl)
          have SB := Lib.hid (show Sl 1 QI w5 (.slice B m0 bc) (negL z0.a) by rw [hw5]; exact (((Rz.of HQ2.out).set (a := ⟨w2.heap.size, 2, none⟩) HLT.out _).set (a := ⟨w2.heap.size, 3, none⟩) HLT.out _).sl)
          have T5 := Lib.hid (T2.out.trans K5.out)
          have U5 := Lib.hid (U2.out.trans K5.out)
          have CD := Lib.hid (show ConAt w5 (.agg #[.int .i64 3, .slice X0 n0 xc0, .slice B m0 bc, .int .i64 (-e0)]) ⟨z0.k, z0.x, negL z0.a, -z0.c⟩ from ⟨.slice X0 n0 xc0, .slice B m0 bc, by rw [← HK0.out, ← HE0.out], HX.out.since stI T5.out, SB.out⟩)
          have HD := Lib.hid (fun W k => holds_at CD.out (HA.out.since stI T5.out) (by simp only [negL, List.length_map]; have := HF2.out; omega) (by have := HF3.out; omega) ((neg_same (by have := HK0.out; omega)).trans HR.out) W k)
          clear hw5 b0 b1 b2 b3 d0 d1 d2 d3 f0 f1 f2 f3 p0 p1 p2 p3 r0 r1 r2 r3 s0 s1 s2 s3 B6 D6 K6 Dr Ur HQ2 HTA
          have hr0 : Since w5 w5.drew := Since.drew (Since.refl w5)
          refine wp_region_noPanic ?_
          refine Reg.wp_region_G (S := fun _ => True) (fun j => [].contains j) (by kernel_rfl) trivial ?_
          refine' Reg.wpG_take (i := 0) (oi := { dst := some 100, op := Op.load 25 (Operand.tmp 7), type := 25, pos := "law.go:112", after := #[], guard := none }) (v := _) [2, 5, 6, 7] [] rfl rfl (by kernel_rfl) (by kernel_rfl) (by kernel_rfl) (by kernel_rfl) (by kernel_rfl) (by kernel_rfl) (by kernel_rfl) (fun _ _ _ h => h) (Or.inl ⟨by rfl, Or.inl ?hy9⟩) ?rest9
          case hy9 => (intro w' kk ss; obtain ⟨x0, x1, x2', x3⟩ := bx4 (B0.out.since (U5.out.trans (hr0.trans kk))); obtain ⟨y0, y1, y2', y3⟩ := bx4 (D5.out.since (hr0.trans kk)); go_simp; first | done | with_reducible rfl)
          try simp only [Act.put, List.setIfInBounds_toArray, List.set_cons_zero, List.set_cons_succ]
          refine' Reg.wpG_take (i := 1) (oi := { dst := some 101, op := Op.move (Operand.tmp 1), type := 23, pos := "law.go:112", after := #[], guard := none }) (v := _) [2, 5, 6, 7] [] rfl rfl (by kernel_rfl) (by kernel_rfl) (by kernel_rfl) (by kernel_rfl) (by kernel_rfl) (by kernel_rfl) (by kernel_rfl) (fun _ _ _ h => h) (Or.inl ⟨by rfl, Or.inl ?hy10⟩) ?rest10
          case hy10 => (intro w' kk ss; obtain ⟨x0, x1, x2', x3⟩ := bx4 (B0.out.since (U5.out.trans (hr0.trans kk))); obtain ⟨y0, y1, y2', y3⟩ := bx4 (D5.out.since (hr0.trans kk)); go_simp; first | done | with_reducible rfl)
          try simp only [Act.put, List.setIfInBounds_toArray, List.set_cons_zero, List.set_cons_succ]
          refine Reg.wpG_take (i := 2) (oi := { dst := some 102, op := Op.call { callee := Callee.value (Operand.func 14), args := #[Operand.tmp 100, Operand.tmp 101], argTypes := #[25, 23] }, type := 4, pos := "law.go:112", after := #[{ on := 0, ground := Ground.data }, { on := 1, ground := Ground.data }], guard := none }) (v := .bool R) [5, 6, 7] [] rfl rfl (by kernel_rfl) (by kernel_rfl) (by kernel_rfl) (by kernel_rfl) (by kernel_rfl) (by kernel_rfl) (by kernel_rfl) (fun _ _ _ h => h) (Or.inl ⟨by rfl, Or.inr ⟨14, #[.agg #[.int .i64 3, .slice X0 n0 xc0, .slice B m0 bc, .int .i64 (-e0)], .slice a1 len1 cap1], fun w' kk ss => ⟨?_, ?_⟩⟩⟩) ?_
          · (try dsimp only at ss); go_simp
          · exact HD.out w' (hr0.trans kk)
          try simp only [Act.put, List.setIfInBounds_toArray, List.set_cons_zero, List.set_cons_succ]
          refine' Reg.wpG_take (i := 3) (oi := { dst := some 103, op := Op.load 25 (Operand.tmp 3), type := 25, pos := "law.go:112", after := #[], guard := none }) (v := _) [5, 6, 7] [] rfl rfl (by kernel_rfl) (by kernel_rfl) (by kernel_rfl) (by kernel_rfl) (by kernel_rfl) (by kernel_rfl) (by kernel_rfl) (fun _ _ _ h => h) (Or.inl ⟨by rfl, Or.inl ?hy11⟩) ?rest11
          case hy11 => (intro w' kk ss; obtain ⟨x0, x1, x2', x3⟩ := bx4 (B0.out.since (U5.out.trans (hr0.trans kk))); obtain ⟨y0, y1, y2', y3⟩ := bx4 (D5.out.since (hr0.trans kk)); go_simp; first | done | with_reducible rfl)
          try simp only [Act.put, List.setIfInBounds_toArray, List.set_cons_zero, List.set_cons_succ]
          refine' Reg.wpG_take (i := 4) (oi := { dst := some 104, op := Op.move (Operand.tmp 1), type := 23, pos := "law.go:112", after := #[], guard := none }) (v := _) [5, 6, 7] [] rfl rfl (by kernel_rfl) (by kernel_rfl) (by kernel_rfl) (by kernel_rfl) (by kernel_rfl) (by kernel_rfl) (by kernel_rfl) (fun _ _ _ h => h) (Or.inl ⟨by rfl, Or.inl ?hy12⟩) ?rest12
          case hy12 => (intro w' kk ss; obtain ⟨x0, x1, x2', x3⟩ := bx4 (B0.out.since (U5.out.trans (hr0.trans kk))); obtain ⟨y0, y1, y2', y3⟩ := bx4 (D5.out.since (hr0.trans kk)); go_simp; first | done | with_reducible rfl)
          try simp only [Act.put, List.setIfInBounds_toArray, List.set_cons_zero, List.set_cons_succ]
          refine Reg.wpG_take (i := 5) (oi := { dst := some 105, op := Op.call { callee := Callee.value (Operand.func 14), args := #[Operand.tmp 103, Operand.tmp 104], argTypes := #[25, 23] }, type := 4, pos := "law.go:112", after := #[{ on := 3, ground := Ground.data }, { on := 4, ground := Ground.data }, { on := 2, ground := Ground.chain }], guard := none }) (v := .bool R) [6, 7] [] rfl rfl (by kernel_rfl) (by kernel_rfl) (by kernel_rfl) (by kernel_rfl) (by kernel_rfl) (by kernel_rfl) (by kernel_rfl) (fun _ _ _ h => h) (Or.inl ⟨by rfl, Or.inr ⟨14, #[.agg #[.int .i64 3, .slice X0 n0 xc0, .slice Y0 m0 yc0, .int .i64 e0], .slice a1 len1 cap1], fun w' kk ss => ⟨?_, ?_⟩⟩⟩) ?_
          · (try dsimp only at ss); go_simp
          · exact HH.out w' (T5.out.trans (hr0.trans kk))
          try simp only [Act.put, List.setIfInBounds_toArray, List.set_cons_zero, List.set_cons_succ]
          refine' Reg.wpG_take (i := 6) (oi := { dst := some 106, op := Op.binOp BinOp.eql 4 (Operand.tmp 102) (Operand.tmp 105) 4, type := 4, pos := "law.go:112", after := #[{ on := 2, ground := Ground.data }, { on := 5, ground := Ground.data }], guard := none }) (v := _) [7] [] rfl rfl (by kernel_rfl) (by kernel_rfl) (by kernel_rfl) (by kernel_rfl) (by kernel_rfl) (by kernel_rfl) (by kernel_rfl) (fun _ _ _ h => h) (Or.inl ⟨by rfl, Or.inl ?hy13⟩) ?rest13
          case hy13 => (intro w' kk ss; obtain ⟨x0, x1, x2', x3⟩ := bx4 (B0.out.since (U5.out.trans (hr0.trans kk))); obtain ⟨y0, y1, y2', y3⟩ := bx4 (D5.out.since (hr0.trans kk)); go_simp; first | done | with_reducible rfl)
          try simp only [Act.put, List.setIfInBounds_toArray, List.set_cons_zero, List.set_cons_succ]
          refine' Reg.wpG_take (i := 7) (oi := { dst := some 6, op := Op.assign (Operand.tmp 106), type := 4, pos := "law.go:112", after := #[{ on := 6, ground := Ground.data }, { on := 5, ground := Ground.chain }, { on := 0, ground := Ground.phase }, { on := 1, ground := Ground.phase }, { on := 2, ground := Ground.phase }, { on := 3, ground := Ground.phase }, { on := 4, ground := Ground.phase }, { on := 5, ground := Ground.phase }, { on := 6, ground := Ground.phase }], guard := none }) (v := _) [] [] rfl rfl (by kernel_rfl) (by kernel_rfl) (by kernel_rfl) (by kernel_rfl) (by kernel_rfl) (by kernel_rfl) (by kernel_rfl) (fun _ _ _ h => h) (Or.inl ⟨by rfl, Or.inl ?hy14⟩) ?rest14
          case hy14 => (intro w' kk ss; obtain ⟨x0, x1, x2', x3⟩ := bx4 (B0.out.since (U5.out.trans (hr0.trans kk))); obtain ⟨y0, y1, y2', y3⟩ := bx4 (D5.out.since (hr0.trans kk)); go_simp; first | done | with_reducible rfl)
          try simp only [Act.put, List.setIfInBounds_toArray, List.set_cons_zero, List.set_cons_succ]
          refine Reg.wpG_done (by kernel_rfl) (fun we ke se => ?_) _
          refine NoPanic.normal ?_
          have hr0 := hr0.trans ke
          clear ke
          go_wp2
          go_ret
          exact RetT.of (by simp) (T5.out.trans hr0)
    · skip
      go_enter Try.func6, Try.ntmps6
      go_wp2_with (first | (go_at_call 10; (with_reducible refine (AL.out _).mono ?_); rintro e w1 ⟨rfl, k1⟩; have K1 := Lib.hid k1; have T1 := Lib.hid (S0.out.trans k1); obtain ⟨b0, b1, b2, b3⟩ := bx4 (B0.out.since k1); clear k1) | (go_at_call 11; (with_reducible refine (FI.out _ T1.out).mono ?_); rintro e w2 ⟨rfl, k2⟩; have T2 := Lib.hid (T1.out.trans k2); have U2 := Lib.hid (K1.out.trans k2); clear k2; obtain ⟨b0, b1, b2, b3⟩ := bx4 (B0.out.since U2.out); have aa : ∀ cs t, _ := fun cs t => bx4 ((B0.out.since U2.out).since (since_alloc w2 (.cells cs t))); obtain ⟨al0, al1, al2, al3⟩ : (∀ cs t, (w2.alloc (.cells cs t)).cell? ⟨w.heap.size, 0, none⟩ = some _) ∧ (∀ cs t, (w2.alloc (.cells cs t)).cell? ⟨w.heap.size, 1, none⟩ = some _) ∧ (∀ cs t, (w2.alloc (.cells cs t)).cell? ⟨w.heap.size, 2, none⟩ = some _) ∧ (∀ cs t, (w2.alloc (.cells cs t)).cell? ⟨w.heap.size, 3, none⟩ = some _) := ⟨fun cs t => (aa cs t).1, fun cs t => (aa cs t).2.1, fun cs t => (aa cs t).2.2.1, fun cs t => (aa cs t).2.2.2⟩; clear aa) | (go_at_call 22; (with_reducible refine (TI.out _ (T2.out.trans (since_alloc _ _))).mono ?_); rintro e w4 ⟨B, bc, rfl, q4⟩; have Q4 := Lib.hid q4; clear q4; have D4 := Lib.hid ((Bx.fresh w2 #[.int .i64 18, .slice X0 n0 xc0, .slice Y0 m0 yc0, .int .i64 e0] 25).since Q4.out.s); obtain ⟨d0, d1, d2, d3⟩ := bx4 D4.out; obtain ⟨f0, f1, f2, f3⟩ := bx4' D4.out))
      obtain ⟨w5, hw5⟩ : ∃ w5, w5 = w4.setCell ⟨w2.heap.size, 1, none⟩ (.slice B n0 bc) := ⟨_, rfl⟩
      rw [← hw5]
      have K5 := Lib.hid (show Since w2 w5 by rw [hw5]; exact ((since_alloc w2 (.cells #[.int .i64 18, .slice X0 n0 xc0, .slice Y0 m0 yc0, .int .i64 e0] 25)).trans Q4.out.s).set (p := ⟨w2.heap.size, 1, none⟩) (Nat.le_refl _) _)
      have D5 := Lib.hid (show Bx w5 w2.heap.size #[.int .i64 18, .slice B n0 bc, .slice Y0 m0 yc0, .int .i64 e0] 25 by rw [hw5]; exact bxset D4.out 1 (.slice B n0 bc) rfl)
      have HLT := Lib.hid (show w2.heap.size < (w2.alloc (.cells #[.int .i64 18, .slice X0 n0 xc0, .slice Y0 m0 yc0, .int .i64 e0] 25)).heap.size by simp)
      have SX := Lib.hid (show Rz 3 (w2.alloc (.cells #[.int .i64 18, .slice X0 n0 xc0, .slice Y0 m0 yc0, .int .i64 e0] 25)).heap.size w5 (.slice B n0 bc) (rot z0.x q) by rw [hw5]; exact (Rz.of Q4.out).set (a := ⟨w2.heap.size, 1, none⟩) HLT.out _)
      have T5 := Lib.hid (T2.out.trans K5.out)
      have U5 := Lib.hid (U2.out.trans K5.out)
      have CD := Lib.hid (show ConAt w5 (.agg #[.int .i64 18, .slice B n0 bc, .slice Y0 m0 yc0, .int .i64 e0]) ⟨z0.k, rotL (q % z0.x.length) z0.x, z0.a, z0.c⟩ from ⟨.slice B n0 bc, .slice Y0 m0 yc0, by rw [← HK0.out, ← HE0.out], by rw [← rot_eq]; exact SX.out.sl, HY.out.since stI T5.out⟩)
      have HD := Lib.hid (fun W k => holds_at CD.out (HA.out.since stI T5.out) (by have := HF2.out; simp only; omega) (by have := HF3.out; omega) ((turned_same _ _ (by have := HK0.out; omega) (List.Perm.refl _) (fun h => by have := HK0.out; omega)).trans HR.out) W k)
      clear hw5 b0 b1 b2 b3 d0 d1 d2 d3 f0 f1 f2 f3 D4 Q4 al0 al1 al2 al3
      have hr0 : Since w5 w5.drew := Since.drew (Since.refl w5)
      refine wp_region_noPanic ?_
      refine Reg.wp_region_G (S := fun _ => True) (fun j => [].contains j) (by kernel_rfl) trivial ?_
      refine' Reg.wpG_take (i := 0) (oi := { dst := some 100, op := Op.load 25 (Operand.tmp 7), type := 25, pos := "law.go:112", after := #[], guard := none }) (v := _) [2, 5, 6, 7] [] rfl rfl (by kernel_rfl) (by kernel_rfl) (by kernel_rfl) (by kernel_rfl) (by kernel_rfl) (by kernel_rfl) (by kernel_rfl) (fun _ _ _ h => h) (Or.inl ⟨by rfl, Or.inl ?hy16⟩) ?rest16
      case hy16 => (intro w' kk ss; obtain ⟨x0, x1, x2', x3⟩ := bx4 (B0.out.since (U5.out.trans (hr0.trans kk))); obtain ⟨y0, y1, y2', y3⟩ := bx4 (D5.out.since (hr0.trans kk)); go_simp; first | done | with_reducible rfl)
      try simp only [Act.put, List.setIfInBounds_toArray, List.set_cons_zero, List.set_cons_succ]
      refine' Reg.wpG_take (i := 1) (oi := { dst := some 101, op := Op.move (Operand.tmp 1), type := 23, pos := "law.go:112", after := #[], guard := none }) (v := _) [2, 5, 6, 7] [] rfl rfl (by kernel_rfl) (by kernel_rfl) (by kernel_rfl) (by kernel_rfl) (by kernel_rfl) (by kernel_rfl) (by kernel_rfl) (fun _ _ _ h => h) (Or.inl ⟨by rfl, Or.inl ?hy17⟩) ?rest17
      case hy17 => (intro w' kk ss; obtain ⟨x0, x1, x2', x3⟩ := bx4 (B0.out.since (U5.out.trans (hr0.trans kk))); obtain ⟨y0, y1, y2', y3⟩ := bx4 (D5.out.since (hr0.trans kk)); go_simp; first | done | with_reducible rfl)
      try simp only [Act.put, List.setIfInBounds_toArray, List.set_cons_zero, List.set_cons_succ]
      refine Reg.wpG_take (i := 2) (oi := { dst := some 102, op := Op.call { callee := Callee.value (Operand.func 14), args := #[Operand.tmp 100, Operand.tmp 101], argTypes := #[25, 23] }, type := 4, pos := "law.go:112", after := #[{ on := 0, ground := Ground.data }, { on := 1, ground := Ground.data }], guard := none }) (v := .bool R) [5, 6, 7] [] rfl rfl (by kernel_rfl) (by kernel_rfl) (by kernel_rfl) (by kernel_rfl) (by kernel_rfl) (by kernel_rfl) (by kernel_rfl) (fun _ _ _ h => h) (Or.inl ⟨by rfl, Or.inr ⟨14, #[.agg #[.int .i64 18, .slice B n0 bc, .slice Y0 m0 yc0, .int .i64 e0], .slice a1 len1 cap1], fun w' kk ss => ⟨?_, ?_⟩⟩⟩) ?_
      · (try dsimp only at ss); go_simp
      · exact HD.out w' (hr0.trans kk)
      try simp only [Act.put, List.setIfInBounds_toArray, List.set_cons_zero, List.set_cons_succ]
      refine' Reg.wpG_take (i := 3) (oi := { dst := some 103, op := Op.load 25 (Operand.tmp 3), type := 25, pos := "law.go:112", after := #[], guard := none }) (v := _) [5, 6, 7] [] rfl rfl (by kernel_rfl) (by kernel_rfl) (by kernel_rfl) (by kernel_rfl) (by kernel_rfl) (by kernel_rfl) (by kernel_rfl) (fun _ _ _ h => h) (Or.inl ⟨by rfl, Or.inl ?hy18⟩) ?rest18
      case hy18 => (intro w' kk ss; obtain ⟨x0, x1, x2', x3⟩ := bx4 (B0.out.since (U5.out.trans (hr0.trans kk))); obtain ⟨y0, y1, y2', y3⟩ := bx4 (D5.out.since (hr0.trans kk)); go_simp; first | done | with_reducible rfl)
      try simp only [Act.put, List.setIfInBounds_toArray, List.set_cons_zero, List.set_cons_succ]
      refine' Reg.wpG_take (i := 4) (oi := { dst := some 104, op := Op.move (Operand.tmp 1), type := 23, pos := "law.go:112", after := #[], guard := none }) (v := _) [5, 6, 7] [] rfl rfl (by kernel_rfl) (by kernel_rfl) (by kernel_rfl) (by kernel_rfl) (by kernel_rfl) (by kernel_rfl) (by kernel_rfl) (fun _ _ _ h => h) (Or.inl ⟨by rfl, Or.inl ?hy19⟩) ?rest19
      case hy19 => (intro w' kk ss; obtain ⟨x0, x1, x2', x3⟩ := bx4 (B0.out.since (U5.out.trans (hr0.trans kk))); obtain ⟨y0, y1, y2', y3⟩ := bx4 (D5.out.since (hr0.trans kk)); go_simp; first | done | with_reducible rfl)
      try simp only [Act.put, List.setIfInBounds_toArray, List.set_cons_zero, List.set_cons_succ]
      refine Reg.wpG_take (i := 5) (oi := { dst := some 105, op := Op.call { callee := Callee.value (Operand.func 14), args := #[Operand.tmp 103, Operand.tmp 104], argTypes := #[25, 23] }, type := 4, pos := "law.go:112", after := #[{ on := 3, ground := Ground.data }, { on := 4, ground := Ground.data }, { on := 2, ground := Ground.chain }], guard := none }) (v := .bool R) [6, 7] [] rfl rfl (by kernel_rfl) (by kernel_rfl) (by kernel_rfl) (by kernel_rfl) (by kernel_rfl) (by kernel_rfl) (by kernel_rfl) (fun _ _ _ h => h) (Or.inl ⟨by rfl, Or.inr ⟨14, #[.agg #[.int .i64 18, .slice X0 n0 xc0, .slice Y0 m0 yc0, .int .i64 e0], .slice a1 len1 cap1], fun w' kk ss => ⟨?_, ?_⟩⟩⟩) ?_
      · (try dsimp only at ss); go_simp
      · exact HH.out w' (T5.out.trans (hr0.trans kk))
      try simp only [Act.put, List.setIfInBounds_toArray, List.set_cons_zero, List.set_cons_succ]
      refine' Reg.wpG_take (i := 6) (oi := { dst := some 106, op := Op.binOp BinOp.eql 4 (Operand.tmp 102) (Operand.tmp 105) 4, type := 4, pos := "law.go:112", after := #[{ on := 2, ground := Ground.data }, { on := 5, ground := Ground.data }], guard := none }) (v := _) [7] [] rfl rfl (by kernel_rfl) (by kernel_rfl) (by kernel_rfl) (by kernel_rfl) (by kernel_rfl) (by kernel_rfl) (by kernel_rfl) (fun _ _ _ h => h) (Or.inl ⟨by rfl, Or.inl ?hy20⟩) ?rest20
      case hy20 => (intro w' kk ss; obtain ⟨x0, x1, x2', x3⟩ := bx4 (B0.out.since (U5.out.trans (hr0.trans kk))); obtain ⟨y0, y1, y2', y3⟩ := bx4 (D5.out.since (hr0.trans kk)); go_simp; first | done | with_reducible rfl)
      try simp only [Act.put, List.setIfInBounds_toArray, List.set_cons_zero, List.set_cons_succ]
      refine' Reg.wpG_take (i := 7) (oi := { dst := some 6, op := Op.assign (Operand.tmp 106), type := 4, pos := "law.go:112", after := #[{ on := 6, ground := Ground.data }, { on := 5, ground := Ground.chain }, { on := 0, ground := Ground.phase }, { on := 1, ground := Ground.phase }, { on := 2, ground := Ground.phase }, { on := 3, ground := Ground.phase }, { on := 4, ground := Ground.phase }, { on := 5, ground := Ground.phase }, { on := 6, ground := Ground.phase }], guard := none }) (v := _) [] [] rfl rfl (by kernel_rfl) (by kernel_rfl) (by kernel_rfl) (by kernel_rfl) (by kernel_rfl) (by kernel_rfl) (by kernel_rfl) (fun _ _ _ h => h) (Or.inl ⟨by rfl, Or.inl ?hy21⟩) ?rest21
      case hy21 => (intro w' kk ss; obtain ⟨x0, x1, x2', x3⟩ := bx4 (B0.out.since (U5.out.trans (hr0.trans kk))); obtain ⟨y0, y1, y2', y3⟩ := bx4 (D5.out.since (hr0.trans kk)); go_simp; first | done | with_reducible rfl)
      try simp only [Act.put, List.setIfInBounds_toArray, List.set_cons_zero, List.set_cons_succ]
      refine Reg.wpG_done (by kernel_rfl) (fun we ke se => ?_) _
      refine NoPanic.normal ?_
      have hr0 := hr0.trans ke
      clear ke
      go_wp2
      go_ret
      exact RetT.of (by simp) (T5.out.trans hr0)
    · skip
      by_cases hm2 : (m0 : Int) = 2 * (n0 : Int)
      case neg =>
        go_enter Try.func6, Try.ntmps6
        go_wp2_with (first | (go_at_call 10; (with_reducible refine (AL.out _).mono ?_); rintro e w1 ⟨rfl, k1⟩; have K1 := Lib.hid k1; have T1 := Lib.hid (S0.out.trans k1); obtain ⟨b0, b1, b2, b3⟩ := bx4 (B0.out.since k1); clear k1) | (go_at_call 11; (with_reducible refine (FI.out _ T1.out).mono ?_); rintro e w2 ⟨rfl, k2⟩; have T2 := Lib.hid (T1.out.trans k2); have U2 := Lib.hid (K1.out.trans k2); clear k2; obtain ⟨b0, b1, b2, b3⟩ := bx4 (B0.out.since U2.out); have aa : ∀ cs t, _ := fun cs t => bx4 ((B0.out.since U2.out).since (since_alloc w2 (.cells cs t))); obtain ⟨al0, al1, al2, al3⟩ : (∀ cs t, (w2.alloc (.cells cs t)).cell? ⟨w.heap.size, 0, none⟩ = some _) ∧ (∀ cs t, (w2.alloc (.cells cs t)).cell? ⟨w.heap.size, 1, none⟩ = some _) ∧ (∀ cs t, (w2.alloc (.cells cs t)).cell? ⟨w.heap.size, 2, none⟩ = some _) ∧ (∀ cs t, (w2.alloc (.cells cs t)).cell? ⟨w.heap.size, 3, none⟩ = some _) := ⟨fun cs t => (aa cs t).1, fun cs t => (aa cs t).2.1, fun cs t => (aa cs t).2.2.1, fun cs t => (aa cs t).2.2.2⟩; clear aa))
        go_ret
        exact ⟨rfl, T2.out.trans (since_alloc _ _)⟩
      have H2N := Lib.hid (show z0.a.length = 2 * z0.x.length by have := HM.out; have := HN.out; omega)
      by_cases hz : n0 = 0
      · skip
        have hm3 : m0 = 0 := by omega
        have HZ := Lib.hid hz
        subst hz hm3
        clear hm2
        have TZ := Lib.hid (fun (w0 : World) A d W (k : Since w0 W) => turned_part (n := 0) (q := q) (sl_none (W := w0) A d) rfl (by omega) hq W k)
        have HLA := Lib.hid (show z0.a = [] from List.eq_nil_of_length_eq_zero (HM.out.symm))
        have HLX2 := Lib.hid (show z0.x = [] from List.eq_nil_of_length_eq_zero (HN.out.symm))
        cases Y0 with
        | none =>
          go_enter Try.func6, Try.ntmps6
          go_wp2_with (first | (go_at_call 10; (with_reducible refine (AL.out _).mono ?_); rintro e w1 ⟨rfl, k1⟩; have K1 := Lib.hid k1; have T1 := Lib.hid (S0.out.trans k1); obtain ⟨b0, b1, b2, b3⟩ := bx4 (B0.out.since k1); clear k1) | (go_at_call 11; (with_reducible refine (FI.out _ T1.out).mono ?_); rintro e w2 ⟨rfl, k2⟩; have T2 := Lib.hid (T1.out.trans k2); have U2 := Lib.hid (K1.out.trans k2); clear k2; obtain ⟨b0, b1, b2, b3⟩ := bx4 (B0.out.since U2.out); have aa : ∀ cs t, _ := fun cs t => bx4 ((B0.out.since U2.out).since (since_alloc w2 (.cells cs t))); obtain ⟨al0, al1, al2, al3⟩ : (∀ cs t, (w2.alloc (.cells cs t)).cell? ⟨w.heap.size, 0, none⟩ = some _) ∧ (∀ cs t, (w2.alloc (.cells cs t)).cell? ⟨w.heap.size, 1, none⟩ = some _) ∧ (∀ cs t, (w2.alloc (.cells cs t)).cell? ⟨w.heap.size, 2, none⟩ = some _) ∧ (∀ cs t, (w2.alloc (.cells cs t)).cell? ⟨w.heap.size, 3, none⟩ = some _) := ⟨fun cs t => (aa cs t).1, fun cs t => (aa cs t).2.1, fun cs t => (aa cs t).2.2.1, fun cs t => (aa cs t).2.2.2⟩; clear aa) | (go_at_call 22; (with_reducible refine (TI.out _ (T2.out.trans (since_alloc _ _))).mono ?_); rintro e w4 ⟨B, bc, rfl, q4⟩; have Q4 := Lib.hid q4; clear q4; have D4 := Lib.hid ((Bx.fresh w2 #[.int .i64 19, .slice X0 0 xc0, .slice none 0 yc0, .int .i64 e0] 25).since Q4.out.s); obtain ⟨d0, d1, d2, d3⟩ := bx4 D4.out; obtain ⟨f0, f1, f2, f3⟩ := bx4' D4.out))
          obtain ⟨w5, hw5⟩ : ∃ w5, w5 = w4.setCell ⟨w2.heap.size, 1, none⟩ (.slice B 0 bc) := ⟨_, rfl⟩
          rw [← hw5]
          have K5 := Lib.hid (show Since w2 w5 by rw [hw5]; exact ((since_alloc w2 (.cells #[.int .i64 19, .slice X0 0 xc0, .slice none 0 yc0, .int .i64 e0] 25)).trans Q4.out.s).set (p := ⟨w2.heap.size, 1, none⟩) (Nat.le_refl _) _)
          have D5 := Lib.hid (show Bx w5 w2.heap.size #[.int .i64 19, .slice B 0 bc, .slice none 0 yc0, .int .i64 e0] 25 by rw [hw5]; exact bxset D4.out 1 (.slice B 0 bc) rfl)
          have HLT := Lib.hid (show w2.heap.size < (w2.alloc (.cells #[.int .i64 19, .slice X0 0 xc0, .slice none 0 yc0, .int .i64 e0] 25)).heap.size by simp)
          have SX := Lib.hid (show Rz 3 (w2.alloc (.cells #[.int .i64 19, .slice X0 0 xc0, .slice none 0 yc0, .int .i64 e0] 25)).heap.size w5 (.slice B 0 bc) (rot z0.x q) by rw [hw5]; exact (Rz.of Q4.out).set (a := ⟨w2.heap.size, 1, none⟩) HLT.out _)
          have T5 := Lib.hid (T2.out.trans K5.out)
          have U5 := Lib.hid (U2.out.trans K5.out)
          have HL5 := Lib.hid (show w2.heap.size < w5.heap.size by rw [hw5]; have := Q4.out.s.size; simp [World.setCell] at *; omega)
          clear hw5 b0 b1 b2 b3 d0 d1 d2 d3 f0 f1 f2 f3 al0 al1 al2 al3
          have hr0 : Since w5 w5.drew := Since.drew (Since.refl w5)
          refine wp_region_noPanic ?_
          refine Reg.wp_region_G (S := fun _ => True) (fun j => [].contains j) (by kernel_rfl) trivial ?_
          refine' Reg.wpG_take (i := 0) (oi := { dst := some 80, op := Op.fieldAddr 25 (Operand.tmp 3) 2, type := 0, pos := "law.go:107", after := #[], guard := none }) (v := _) [1, 5, 7, 15, 16, 17] [] rfl rfl (by kernel_rfl) (by kernel_rfl) (by kernel_rfl) (by kernel_rfl) (by kernel_rfl) (by kernel_rfl) (by kernel_rfl) (fun _ _ _ h => h) (Or.inl ⟨by rfl, Or.inl ?hy23⟩) ?rest23
          case hy23 => (intro w' kk ss; obtain ⟨x0, x1, x2', x3⟩ := bx4 (B0.out.since (U5.out.trans (hr0.trans kk))); go_simp; first | done | with_reducible rfl)
          try simp only [Act.put, List.setIfInBounds_toArray, List.set_cons_zero, List.set_cons_succ]
          refine' Reg.wpG_take (i := 1) (oi := { dst := some 81, op := Op.load 23 (Operand.tmp 80), type := 23, pos := "law.go:107", after := #[{ on := 0, ground := Ground.data }], guard := none }) (v := _) [5, 7, 15, 16, 17] [] rfl rfl (by kernel_rfl) (by kernel_rfl) (by kernel_rfl) (by kernel_rfl) (by kernel_rfl) (by kernel_rfl) (by kernel_rfl) (fun _ _ _ h => h) (Or.inl ⟨by rfl, Or.inl ?hy24⟩) ?rest24
          case hy24 => (intro w' kk ss; obtain ⟨x0, x1, x2', x3⟩ := bx4 (B0.out.since (U5.out.trans (hr0.trans kk))); go_simp; first | done | with_reducible rfl)
          try simp only [Act.put, List.setIfInBounds_toArray, List.set_cons_zero, List.set_cons_succ]
          refine' Reg.wpG_take (i := 2) (oi := { dst := some 82, op := Op.fieldAddr 25 (Operand.tmp 3) 1, type := 0, pos := "law.go:107", after := #[], guard := none }) (v := _) [3, 4, 5, 7, 15, 16, 17] [] rfl rfl (by kernel_rfl) (by kernel_rfl) (by kernel_rfl) (by kernel_rfl) (by kernel_rfl) (by kernel_rfl) (by kernel_rfl) (fun _ _ _ h => h) (Or.inl ⟨by rfl, Or.inl ?hy25⟩) ?rest25
          case hy25 => (intro w' kk ss; obtain ⟨x0, x1, x2', x3⟩ := bx4 (B0.out.since (U5.out.trans (hr0.trans kk))); go_simp; first | done | with_reducible rfl)
          try simp only [Act.put, List.setIfInBounds_toArray, List.set_cons_zero, List.set_cons_succ]
          refine' Reg.wpG_take (i := 3) (oi := { dst := some 83, op := Op.load 22 (Operand.tmp 82), type := 22, pos := "law.go:107", after := #[{ on := 2, ground := Ground.data }], guard := none }) (v := _) [4, 5, 7, 15, 16, 17] [] rfl rfl (by kernel_rfl) (by kernel_rfl) (by kernel_rfl) (by kernel_rfl) (by kernel_rfl) (by kernel_rfl) (by kernel_rfl) (fun _ _ _ h => h) (Or.inl ⟨by rfl, Or.inl ?hy26⟩) ?rest26
          case hy26 => (intro w' kk ss; obtain ⟨x0, x1, x2', x3⟩ := bx4 (B0.out.since (U5.out.trans (hr0.trans kk))); go_simp; first | done | with_reducible rfl)
          try simp only [Act.put, List.setIfInBounds_toArray, List.set_cons_zero, List.set_cons_succ]
          refine' Reg.wpG_take (i := 4) (oi := { dst := some 84, op := Op.call { callee := Callee.builtin Builtin.len, args := #[Operand.tmp 83], argTypes := #[22] }, type := 3, pos := "law.go:107", after := #[{ on := 3, ground := Ground.data }], guard := none }) (v := _) [5, 7, 15, 16, 17] [] rfl rfl (by kernel_rfl) (by kernel_rfl) (by kernel_rfl) (by kernel_rfl) (by kernel_rfl) (by kernel_rfl) (by kernel_rfl) (fun _ _ _ h => h) (Or.inl ⟨by rfl, Or.inl ?hy27⟩) ?rest27
          case hy27 => (intro w' kk ss; obtain ⟨x0, x1, x2', x3⟩ := bx4 (B0.out.since (U5.out.trans (hr0.trans kk))); go_simp; first | done | with_reducible rfl)
          try simp only [Act.put, List.setIfInBounds_toArray, List.set_cons_zero, List.set_cons_succ]
          refine' Reg.wpG_take (i := 5) (oi := { dst := some 85, op := Op.slice 23 (Operand.tmp 81) none (some (Operand.tmp 84)) none, type := 23, pos := "law.go:107", after := #[{ on := 1, ground := Ground.data }, { on := 4, ground := Ground.data }], guard := none }) (v := _) [7, 15, 16, 17] [] rfl rfl (by kernel_rfl) (by kernel_rfl) (by kernel_rfl) (by kernel_rfl) (by kernel_rfl) (by kernel_rfl) (by kernel_rfl) (fun _ _ _ h => h) (Or.inl ⟨by rfl, Or.inl ?hy28⟩) ?rest28
          case hy28 => (intro w' kk ss; obtain ⟨x0, x1, x2', x3⟩ := bx4 (B0.out.since (U5.out.trans (hr0.trans kk))); go_simp; first | done | with_reducible rfl)
          try simp only [Act.put, List.setIfInBounds_toArray, List.set_cons_zero, List.set_cons_succ]
          refine' Reg.wpG_take (i := 6) (oi := { dst := some 86, op := Op.move (Operand.tmp 2), type := 5, pos := "law.go:107", after := #[], guard := none }) (v := _) [7, 15, 16, 17] [] rfl rfl (by kernel_rfl) (by kernel_rfl) (by kernel_rfl) (by kernel_rfl) (by kernel_rfl) (by kernel_rfl) (by kernel_rfl) (fun _ _ _ h => h) (Or.inl ⟨by rfl, Or.inl ?hy29⟩) ?rest29
          case hy29 => (intro w' kk ss; obtain ⟨x0, x1, x2', x3⟩ := bx4 (B0.out.since (U5.out.trans (hr0.trans kk))); go_simp; first | done | with_reducible rfl)
          try simp only [Act.put, List.setIfInBounds_toArray, List.set_cons_zero, List.set_cons_succ]
          refine' Reg.wpG_take (i := 8) (oi := { dst := some 88, op := Op.fieldAddr 25 (Operand.tmp 3) 2, type := 0, pos := "law.go:107", after := #[], guard := none }) (v := _) [9, 13, 15, 16, 17] [] rfl rfl (by kernel_rfl) (by kernel_rfl) (by kernel_rfl) (by kernel_rfl) (by kernel_rfl) (by kernel_rfl) (by kernel_rfl) (fun _ _ _ h => h) (Or.inl ⟨by rfl, Or.inl ?hy30⟩) ?rest30
          case hy30 => (intro w' kk ss; obtain ⟨x0, x1, x2', x3⟩ := bx4 (B0.out.since (U5.out.trans (hr0.trans kk))); go_simp; first | done | with_reducible rfl)
          try simp only [Act.put, List.setIfInBounds_toArray, List.set_cons_zero, List.set_cons_succ]
          refine' Reg.wpG_take (i := 9) (oi := { dst := some 89, op := Op.load 23 (Operand.tmp 88), type := 23, pos := "law.go:107", after := #[{ on := 8, ground := Ground.data }], guard := none }) (v := _) [13, 15, 16, 17] [] rfl rfl (by kernel_rfl) (by kernel_rfl) (by kernel_rfl) (by kernel_rfl) (by kernel_rfl) (by kernel_rfl) (by kernel_rfl) (fun _ _ _ h => h) (Or.inl ⟨by rfl, Or.inl ?hy31⟩) ?rest31
          case hy31 => (intro w' kk ss; obtain ⟨x0, x1, x2', x3⟩ := bx4 (B0.out.since (U5.out.trans (hr0.trans kk))); go_simp; first | done | with_reducible rfl)
          try simp only [Act.put, List.setIfInBounds_toArray, List.set_cons_zero, List.set_cons_succ]
          refine' Reg.wpG_take (i := 10) (oi := { dst := some 90, op := Op.fieldAddr 25 (Operand.tmp 3) 1, type := 0, pos := "law.go:107", after := #[], guard := none }) (v := _) [11, 12, 13, 15, 16, 17] [] rfl rfl (by kernel_rfl) (by kernel_rfl) (by kernel_rfl) (by kernel_rfl) (by kernel_rfl) (by kernel_rfl) (by kernel_rfl) (fun _ _ _ h => h) (Or.inl ⟨by rfl, Or.inl ?hy32⟩) ?rest32
          case hy32 => (intro w' kk ss; obtain ⟨x0, x1, x2', x3⟩ := bx4 (B0.out.since (U5.out.trans (hr0.trans kk))); go_simp; first | done | with_reducible rfl)
          try simp only [Act.put, List.setIfInBounds_toArray, List.set_cons_zero, List.set_cons_succ]
          refine' Reg.wpG_take (i := 11) (oi := { dst := some 91, op := Op.load 22 (Operand.tmp 90), type := 22, pos := "law.go:107", after := #[{ on := 10, ground := Ground.data }], guard := none }) (v := _) [12, 13, 15, 16, 17] [] rfl rfl (by kernel_rfl) (by kernel_rfl) (by kernel_rfl) (by kernel_rfl) (by kernel_rfl) (by kernel_rfl) (by kernel_rfl) (fun _ _ _ h => h) (Or.inl ⟨by rfl, Or.inl ?hy33⟩) ?rest33
          case hy33 => (intro w' kk ss; obtain ⟨x0, x1, x2', x3⟩ := bx4 (B0.out.since (U5.out.trans (hr0.trans kk))); go_simp; first | done | with_reducible rfl)
          try simp only [Act.put, List.setIfInBounds_toArray, List.set_cons_zero, List.set_cons_succ]
          refine' Reg.wpG_take (i := 12) (oi := { dst := some 92, op := Op.call { callee := Callee.builtin Builtin.len, args := #[Operand.tmp 91], argTypes := #[22] }, type := 3, pos := "law.go:107", after := #[{ on := 11, ground := Ground.data }], guard := none }) (v := _) [13, 15, 16, 17] [] rfl rfl (by kernel_rfl) (by kernel_rfl) (by kernel_rfl) (by kernel_rfl) (by kernel_rfl) (by kernel_rfl) (by kernel_rfl) (fun _ _ _ h => h) (Or.inl ⟨by rfl, Or.inl ?hy34⟩) ?rest34
          case hy34 => (intro w' kk ss; obtain ⟨x0, x1, x2', x3⟩ := bx4 (B0.out.since (U5.out.trans (hr0.trans kk))); go_simp; first | done | with_reducible rfl)
          try simp only [Act.put, List.setIfInBounds_toArray, List.set_cons_zero, List.set_cons_succ]
          refine' Reg.wpG_take (i := 13) (oi := { dst := some 93, op := Op.slice 23 (Operand.tmp 89) (some (Operand.tmp 92)) none none, type := 23, pos := "law.go:107", after := #[{ on := 9, ground := Ground.data }, { on := 12, ground := Ground.data }], guard := none }) (v := _) [15, 16, 17] [] rfl rfl (by kernel_rfl) (by kernel_rfl) (by kernel_rfl) (by kernel_rfl) (by kernel_rfl) (by kernel_rfl) (by kernel_rfl) (fun _ _ _ h => h) (Or.inl ⟨by rfl, Or.inl ?hy35⟩) ?rest35
          case hy35 => (intro w' kk ss; obtain ⟨x0, x1, x2', x3⟩ := bx4 (B0.out.since (U5.out.trans (hr0.trans kk))); go_simp; first | done | with_reducible rfl)
          try simp only [Act.put, List.setIfInBounds_toArray, List.set_cons_zero, List.set_cons_succ]
          refine' Reg.wpG_take (i := 14) (oi := { dst := some 94, op := Op.move (Operand.tmp 2), type := 5, pos := "law.go:107", after := #[], guard := none }) (v := _) [15, 16, 17] [] rfl rfl (by kernel_rfl) (by kernel_rfl) (by kernel_rfl) (by kernel_rfl) (by kernel_rfl) (by kernel_rfl) (by kernel_rfl) (fun _ _ _ h => h) (Or.inl ⟨by rfl, Or.inl ?hy36⟩) ?rest36
          case hy36 => (intro w' kk ss; obtain ⟨x0, x1, x2', x3⟩ := bx4 (B0.out.since (U5.out.trans (hr0.trans kk))); go_simp; first | done | with_reducible rfl)
          try simp only [Act.put, List.setIfInBounds_toArray, List.set_cons_zero, List.set_cons_succ]
          refine Reg.wpG_ready (rs := [7]) (by kernel_rfl) (by simp) (fun wq22001 k22001' sq22001 => ?_)
          have hr0 := hr0.trans k22001'
          refine Reg.AllG.first (o := { dst := some 87, op := Op.call { callee := Callee.value (Operand.func 23), args := #[Operand.tmp 85, Operand.tmp 86], argTypes := #[23, 5] }, type := 23, pos := "law.go:107", after := #[{ on := 5, ground := Ground.data }, { on := 6, ground := Ground.data }], guard := none }) rfl (by rfl) (fun K hK => ?_) Reg.AllG.nil
          go_simp
          (with_reducible refine ((TZ.out w5 _ _ wq22001 hr0)).mono ?_)
          rintro e y22001 ⟨B1, c1, rfl, q1, hx⟩
          refine hK.out _ _ trivial hx ?_
          clear hK K
          have hr0 := hr0.trans hx
          clear hx
          try simp only [Act.put, List.setIfInBounds_toArray, List.set_cons_zero, List.set_cons_succ]
          refine Reg.wpG_ready (rs := [15]) (by kernel_rfl) (by simp) (fun wq22002 k22002' sq22002 => ?_)
          have hr0 := hr0.trans k22002'
          have q1 := q1.since k22002'
          refine Reg.AllG.first (o := { dst := some 95, op := Op.call { callee := Callee.value (Operand.func 23), args := #[Operand.tmp 93, Operand.tmp 94], argTypes := #[23, 5] }, type := 23, pos := "law.go:107", after := #[{ on := 13, ground := Ground.data }, { on := 14, ground := Ground.data }, { on := 7, ground := Ground.chain }], guard := none }) rfl (by rfl) (fun K hK => ?_) Reg.AllG.nil
          go_simp
          (with_reducible refine ((TZ.out w5 _ _ wq22002 hr0)).mono ?_)
          rintro e y22002 ⟨B2, c2, rfl, q2, hx⟩
          refine hK.out _ _ trivial hx ?_
          clear hK K
          have hr0 := hr0.trans hx
          have q1 := q1.since hx
          clear hx
          try simp only [Act.put, List.setIfInBounds_toArray, List.set_cons_zero, List.set_cons_succ]
          refine' Reg.wpG_take (i := 16) (oi := { dst := some 11, op := Op.assign (Operand.tmp 87), type := 23, pos := "law.go:107", after := #[{ on := 7, ground := Ground.data }, { on := 15, ground := Ground.chain }, { on := 0, ground := Ground.phase }, { on := 1, ground := Ground.phase }, { on := 2, ground := Ground.phase }, { on := 3, ground := Ground.phase }, { on := 4, ground := Ground.phase }, { on := 5, ground := Ground.phase }, { on := 6, ground := Ground.phase }, { on := 7, ground := Ground.phase }, { on := 8, ground := Ground.textOnly Departure.lateStores }, { on := 9, ground := Ground.textOnly Departure.lateStores }, { on := 10, ground := Ground.textOnly Departure.lateStores }, { on := 11, ground := Ground.textOnly Departure.lateStores }, { on := 12, ground := Ground.textOnly Departure.lateStoresUnsure }, { on := 13, ground := Ground.textOnly Departure.lateStoresUnsure }, { on := 14, ground := Ground.textOnly Departure.lateStores }, { on := 15, ground := Ground.textOnly Departure.lateStoresUnsure }], guard := none }) (v := _) [17] [] rfl rfl (by kernel_rfl) (by kernel_rfl) (by kernel_rfl) (by kernel_rfl) (by kernel_rfl) (by kernel_rfl) (by kernel_rfl) (fun _ _ _ h => h) (Or.inl ⟨by rfl, Or.inl ?hy37⟩) ?rest37
          case hy37 => (intro w' kk ss; obtain ⟨x0, x1, x2', x3⟩ := bx4 (B0.out.since (U5.out.trans (hr0.trans kk))); go_simp; first | done | with_reducible rfl)
          try simp only [Act.put, List.setIfInBounds_toArray, List.set_cons_zero, List.set_cons_succ]
          refine' Reg.wpG_take (i := 17) (oi := { dst := some 12, op := Op.assign (Operand.tmp 95), type := 23, pos := "law.go:107", after := #[{ on := 15, ground := Ground.data }, { on := 16, ground := Ground.chain }, { on := 0, ground := Ground.phase }, { on := 1, ground := Ground.phase }, { on := 2, ground := Ground.phase }, { on := 3, ground := Ground.phase }, { on := 4, ground := Ground.phase }, { on := 5, ground := Ground.phase }, { on := 6, ground := Ground.phase }, { on := 7, ground := Ground.phase }, { on := 8, ground := Ground.phase }, { on := 9, ground := Ground.phase }, { on := 10, ground := Ground.phase }, { on := 11, ground := Ground.phase }, { on := 12, ground := Ground.phase }, { on := 13, ground := Ground.phase }, { on := 14, ground := Ground.phase }, { on := 15, ground := Ground.phase }, { on := 16, ground := Ground.phase }], guard := none }) (v := _) [] [] rfl rfl (by kernel_rfl) (by kernel_rfl) (by kernel_rfl) (by kernel_rfl) (by kernel_rfl) (by kernel_rfl) (by kernel_rfl) (fun _ _ _ h => h) (Or.inl ⟨by rfl, Or.inl ?hy38⟩) ?rest38
          case hy38 => (intro w' kk ss; obtain ⟨x0, x1, x2', x3⟩ := bx4 (B0.out.since (U5.out.trans (hr0.trans kk))); go_simp; first | done | with_reducible rfl)
          try simp only [Act.put, List.setIfInBounds_toArray, List.set_cons_zero, List.set_cons_succ]
          refine Reg.wpG_done (by kernel_rfl) (fun we ke se => ?_) _
          refine NoPanic.normal ?_
          have hr0 := hr0.trans ke
          have q1 := q1.since ke
          have q2 := q2.since ke
          clear ke
          obtain ⟨bb1, hb1, q1⟩ := q1
          obtain ⟨bb2, hb2, q2⟩ := q2
          have Q1 := Lib.hid q1
          have Q2 := Lib.hid q2
          have HB1 := Lib.hid hb1
          clear q1 q2 hb1 hb2
          have GG := Lib.hid (show w2.heap.size < bb1.heap.size ∧ w.heap.size < bb1.heap.size by have := HB1.out.size; have := K5.out.size; have h5 := D5.out; have := T2.out.size; have := U2.out.size; have hlt5 := HL5.out; simp at *; omega)
          have Be := Lib.hid (B0.out.since (U5.out.trans hr0))
          have De := Lib.hid (D5.out.since hr0)
          obtain ⟨b0, b1, b2, b3⟩ := bx4 Be.out
          obtain ⟨d0, d1, d2, d3⟩ := bx4 De.out
          obtain ⟨f0, f1, f2, f3⟩ := bx4' De.out
          have HLL := Lib.hid (show (rot ([] : List Int) q).length + (rot ([] : List Int) q).length ≤ 1000000 by simp [rot_len])
          have HSUM := Lib.hid (show (rot ([] : List Int) q).length + (rot ([] : List Int) q).length = 0 by simp [rot_len])
          go_wp2_with (at_builtin; refine wpList_cat Q1.out Q2.out HLL.out (by rfl) _ _ rfl rfl rfl ?_; rw [HSUM.out]; intro A c8 w8 h8 k8; have H8 := Lib.hid h8; have B8 := Lib.hid (Q1.out.bx Be.out GG.out.2 k8); have D8 := Lib.hid (Q1.out.bx De.out GG.out.1 k8); clear h8 k8; obtain ⟨b0, b1, b2, b3⟩ := bx4 B8.out; obtain ⟨d0, d1, d2, d3⟩ := bx4 D8.out; obtain ⟨f0, f1, f2, f3⟩ := bx4' D8.out)
          obtain ⟨w9, hw9⟩ : ∃ w9, w9 = w8.setCell ⟨w2.heap.size, 2, none⟩ (.slice A 0 c8) := ⟨_, rfl⟩
          rw [← hw9]
          have K8 := Lib.hid (HB1.out.trans H8.out.s)
          have K9 := Lib.hid (show Since w2 w9 by rw [hw9]; exact (K5.out.trans K8.out).set (p := ⟨w2.heap.size, 2, none⟩) (Nat.le_refl _) _)
          have D9 := Lib.hid (show Bx w9 w2.heap.size #[.int .i64 19, .slice B 0 bc, .slice A 0 c8, .int .i64 e0] 25 by rw [hw9]; exact bxset D8.out 2 (.slice A 0 c8) rfl)
          have SX9 := Lib.hid (show Sl 1 QI w9 (.slice B 0 bc) (rot z0.x q) by rw [hw9]; exact ((SX.out.since K8.out).set (a := ⟨w2.heap.size, 2, none⟩) HLT.out _).sl)
          have SA9 := Lib.hid (show Sl 1 QI w9 (.slice A 0 c8) (rot ([] : List Int) q ++ rot ([] : List Int) q) by rw [hw9]; exact ((Rz.of H8.out).set (a := ⟨w2.heap.size, 2, none⟩) GG.out.1 _).sl)
          have T9 := Lib.hid (T2.out.trans K9.out)
          have U9 := Lib.hid (U2.out.trans K9.out)
          have HRA := Lib.hid (show rot ([] : List Int) q ++ rot ([] : List Int) q = rotA (q % z0.x.length) z0 by have := rot_rotA z0 HN.out H2N.out q; rw [HLA.out] at this; exact this)
          have CD := Lib.hid (show ConAt w9 (.agg #[.int .i64 19, .slice B 0 bc, .slice A 0 c8, .int .i64 e0]) ⟨z0.k, rotL (q % z0.x.length) z0.x, rotA (q % z0.x.length) z0, z0.c⟩ from ⟨.slice B 0 bc, .slice A 0 c8, by rw [← HK0.out, ← HE0.out], by rw [← rot_eq]; exact SX9.out, by rw [← HRA.out]; exact SA9.out⟩)
          have HD := Lib.hid (fun W k => holds_at CD.out (HA.out.since stI T9.out) (by simp only; rw [(rotA_perm _ _).length_eq]; have := HF2.out; omega) (by have := HF3.out; omega) ((turned_same _ _ (by have := HK0.out; omega) (rotA_perm _ _) (fun h => ⟨rfl, H2N.out⟩)).trans HR.out) W k)
          clear hr0 hw9 b0 b1 b2 b3 d0 d1 d2 d3 f0 f1 f2 f3 Be De B8 D8 H8 Q1 Q2
          have hr0 : Since w9 w9.drew := Since.drew (Since.refl w9)
          refine wp_region_noPanic ?_
          refine Reg.wp_region_G (S := fun _ => True) (fun j => [].contains j) (by kernel_rfl) trivial ?_
          refine' Reg.wpG_take (i := 0) (oi := { dst := some 100, op := Op.load 25 (Operand.tmp 7), type := 25, pos := "law.go:112", after := #[], guard := none }) (v := _) [2, 5, 6, 7] [] rfl rfl (by kernel_rfl) (by kernel_rfl) (by kernel_rfl) (by kernel_rfl) (by kernel_rfl) (by kernel_rfl) (by kernel_rfl) (fun _ _ _ h => h) (Or.inl ⟨by rfl, Or.inl ?hy40⟩) ?rest40
          case hy40 => (intro w' kk ss; obtain ⟨x0, x1, x2', x3⟩ := bx4 (B0.out.since (U9.out.trans (hr0.trans kk))); obtain ⟨y0, y1, y2', y3⟩ := bx4 (D9.out.since (hr0.trans kk)); go_simp; first | done | with_reducible rfl)
          try simp only [Act.put, List.setIfInBounds_toArray, List.set_cons_zero, List.set_cons_succ]
          refine' Reg.wpG_take (i := 1) (oi := { dst := some 101, op := Op.move (Operand.tmp 1), type := 23, pos := "law.go:112", after := #[], guard := none }) (v := _) [2, 5, 6, 7] [] rfl rfl (by kernel_rfl) (by kernel_rfl) (by kernel_rfl) (by kernel_rfl) (by kernel_rfl) (by kernel_rfl) (by kernel_rfl) (fun _ _ _ h => h) (Or.inl ⟨by rfl, Or.inl ?hy41⟩) ?rest41
          case hy41 => (intro w' kk ss; obtain ⟨x0, x1, x2', x3⟩ := bx4 (B0.out.since (U9.out.trans (hr0.trans kk))); obtain ⟨y0, y1, y2', y3⟩ := bx4 (D9.out.since (hr0.trans kk)); go_simp; first | done | with_reducible rfl)
          try simp only [Act.put, List.setIfInBounds_toArray, List.set_cons_zero, List.set_cons_succ]
          refine Reg.wpG_take (i := 2) (oi := { dst := some 102, op := Op.call { callee := Callee.value (Operand.func 14), args := #[Operand.tmp 100, Operand.tmp 101], argTypes := #[25, 23] }, type := 4, pos := "law.go:112", after := #[{ on := 0, ground := Ground.data }, { on := 1, ground := Ground.data }], guard := none }) (v := .bool R) [5, 6, 7] [] rfl rfl (by kernel_rfl) (by kernel_rfl) (by kernel_rfl) (by kernel_rfl) (by kernel_rfl) (by kernel_rfl) (by kernel_rfl) (fun _ _ _ h => h) (Or.inl ⟨by rfl, Or.inr ⟨14, #[.agg #[.int .i64 19, .slice B 0 bc, .slice A 0 c8, .int .i64 e0], .slice a1 len1 cap1], fun w' kk ss => ⟨?_, ?_⟩⟩⟩) ?_
          · (try dsimp only at ss); go_simp
          · exact HD.out w' (hr0.trans kk)
          try simp only [Act.put, List.setIfInBounds_toArray, List.set_cons_zero, List.set_cons_succ]
          refine' Reg.wpG_take (i := 3) (oi := { dst := some 103, op := Op.load 25 (Operand.tmp 3), type := 25, pos := "law.go:112", after := #[], guard := none }) (v := _) [5, 6, 7] [] rfl rfl (by kernel_rfl) (by kernel_rfl) (by kernel_rfl) (by kernel_rfl) (by kernel_rfl) (by kernel_rfl) (by kernel_rfl) (fun _ _ _ h => h) (Or.inl ⟨by rfl, Or.inl ?hy42⟩) ?rest42
          case hy42 => (intro w' kk ss; obtain ⟨x0, x1, x2', x3⟩ := bx4 (B0.out.since (U9.out.trans (hr0.trans kk))); obtain ⟨y0, y1, y2', y3⟩ := bx4 (D9.out.since (hr0.trans kk)); go_simp; first | done | with_reducible rfl)
          try simp only [Act.put, List.setIfInBounds_toArray, List.set_cons_zero, List.set_cons_succ]
          refine' Reg.wpG_take (i := 4) (oi := { dst := some 104, op := Op.move (Operand.tmp 1), type := 23, pos := "law.go:112", after := #[], guard := none }) (v := _) [5, 6, 7] [] rfl rfl (by kernel_rfl) (by kernel_rfl) (by kernel_rfl) (by kernel_rfl) (by kernel_rfl) (by kernel_rfl) (by kernel_rfl) (fun _ _ _ h => h) (Or.inl ⟨by rfl, Or.inl ?hy43⟩) ?rest43
          case hy43 => (intro w' kk ss; obtain ⟨x0, x1, x2', x3⟩ := bx4 (B0.out.since (U9.out.trans (hr0.trans kk))); obtain ⟨y0, y1, y2', y3⟩ := bx4 (D9.out.since (hr0.trans kk)); go_simp; first | done | with_reducible rfl)
          try simp only [Act.put, List.setIfInBounds_toArray, List.set_cons_zero, List.set_cons_succ]
          refine Reg.wpG_take (i := 5) (oi := { dst := some 105, op := Op.call { callee := Callee.value (Operand.func 14), args := #[Operand.tmp 103, Operand.tmp 104], argTypes := #[25, 23] }, type := 4, pos := "law.go:112", after := #[{ on := 3, ground := Ground.data }, { on := 4, ground := Ground.data }, { on := 2, ground := Ground.chain }], guard := none }) (v := .bool R) [6, 7] [] rfl rfl (by kernel_rfl) (by kernel_rfl) (by kernel_rfl) (by kernel_rfl) (by kernel_rfl) (by kernel_rfl) (by kernel_rfl) (fun _ _ _ h => h) (Or.inl ⟨by rfl, Or.inr ⟨14, #[.agg #[.int .i64 19, .slice X0 0 xc0, .slice none 0 yc0, .int .i64 e0], .slice a1 len1 cap1], fun w' kk ss => ⟨?_, ?_⟩⟩⟩) ?_
          · (try dsimp only at ss); go_simp
          · exact HH.out w' (T9.out.trans (hr0.trans kk))
          try simp only [Act.put, List.setIfInBounds_toArray, List.set_cons_zero, List.set_cons_succ]
          refine' Reg.wpG_take (i := 6) (oi := { dst := some 106, op := Op.binOp BinOp.eql 4 (Operand.tmp 102) (Operand.tmp 105) 4, type := 4, pos := "law.go:112", after := #[{ on := 2, ground := Ground.data }, { on := 5, ground := Ground.data }], guard := none }) (v := _) [7] [] rfl rfl (by kernel_rfl) (by kernel_rfl) (by kernel_rfl) (by kernel_rfl) (by kernel_rfl) (by kernel_rfl) (by kernel_rfl) (fun _ _ _ h => h) (Or.inl ⟨by rfl, Or.inl ?hy44⟩) ?rest44
          case hy44 => (intro w' kk ss; obtain ⟨x0, x1, x2', x3⟩ := bx4 (B0.out.since (U9.out.trans (hr0.trans kk))); obtain ⟨y0, y1, y2', y3⟩ := bx4 (D9.out.since (hr0.trans kk)); go_simp; first | done | with_reducible rfl)
          try simp only [Act.put, List.setIfInBounds_toArray, List.set_cons_zero, List.set_cons_succ]
          refine' Reg.wpG_take (i := 7) (oi := { dst := some 6, op := Op.assign (Operand.tmp 106), type := 4, pos := "law.go:112", after := #[{ on := 6, ground := Ground.data }, { on := 5, ground := Ground.chain }, { on := 0, ground := Ground.phase }, { on := 1, ground := Ground.phase }, { on := 2, ground := Ground.phase }, { on := 3, ground := Ground.phase }, { on := 4, ground := Ground.phase }, { on := 5, ground := Ground.phase }, { on := 6, ground := Ground.phase }], guard := none }) (v := _) [] [] rfl rfl (by kernel_rfl) (by kernel_rfl) (by kernel_rfl) (by kernel_rfl) (by kernel_rfl) (by kernel_rfl) (by kernel_rfl) (fun _ _ _ h => h) (Or.inl ⟨by rfl, Or.inl ?hy45⟩) ?rest45
          case hy45 => (intro w' kk ss; obtain ⟨x0, x1, x2', x3⟩ := bx4 (B0.out.since (U9.out.trans (hr0.trans kk))); obtain ⟨y0, y1, y2', y3⟩ := bx4 (D9.out.since (hr0.trans kk)); go_simp; first | done | with_reducible rfl)
          try simp only [Act.put, List.setIfInBounds_toArray, List.set_cons_zero, List.set_cons_succ]
          refine Reg.wpG_done (by kernel_rfl) (fun we ke se => ?_) _
          refine NoPanic.normal ?_
          have hr0 := hr0.trans ke
          clear ke
          go_wp2
          go_ret
          exact RetT.of (by simp) (T9.out.trans hr0)
        | some ad =>
          go_enter Try.func6, Try.ntmps6
          go_wp2_with (first | (go_at_call 10; (with_reducible refine (AL.out _).mono ?_); rintro e w1 ⟨rfl, k1⟩; have K1 := Lib.hid k1; have T1 := Lib.hid (S0.out.trans k1); obtain ⟨b0, b1, b2, b3⟩ := bx4 (B0.out.since k1); clear k1) | (go_at_call 11; (with_reducible refine (FI.out _ T1.out).mono ?_); rintro e w2 ⟨rfl, k2⟩; have T2 := Lib.hid (T1.out.trans k2); have U2 := Lib.hid (K1.out.trans k2); clear k2; obtain ⟨b0, b1, b2, b3⟩ := bx4 (B0.out.since U2.out); have aa : ∀ cs t, _ := fun cs t => bx4 ((B0.out.since U2.out).since (since_alloc w2 (.cells cs t))); obtain ⟨al0, al1, al2, al3⟩ : (∀ cs t, (w2.alloc (.cells cs t)).cell? ⟨w.heap.size, 0, none⟩ = some _) ∧ (∀ cs t, (w2.alloc (.cells cs t)).cell? ⟨w.heap.size, 1, none⟩ = some _) ∧ (∀ cs t, (w2.alloc (.cells cs t)).cell? ⟨w.heap.size, 2, none⟩ = some _) ∧ (∀ cs t, (w2.alloc (.cells cs t)).cell? ⟨w.heap.size, 3, none⟩ = some _) := ⟨fun cs t => (aa cs t).1, fun cs t => (aa cs t).2.1, fun cs t => (aa cs t).2.2.1, fun cs t => (aa cs t).2.2.2⟩; clear aa) | (go_at_call 22; (with_reducible refine (TI.out _ (T2.out.trans (since_alloc _ _))).mono ?_); rintro e w4 ⟨B, bc, rfl, q4⟩; have Q4 := Lib.hid q4; clear q4; have D4 := Lib.hid ((Bx.fresh w2 #[.int .i64 19, .slice X0 0 xc0, .slice (some ad) 0 yc0, .int .i64 e0] 25).since Q4.out.s); obtain ⟨d0, d1, d2, d3⟩ := bx4 D4.out; obtain ⟨f0, f1, f2, f3⟩ := bx4' D4.out))
          obtain ⟨w5, hw5⟩ : ∃ w5, w5 = w4.setCell ⟨w2.heap.size, 1, none⟩ (.slice B 0 bc) := ⟨_, rfl⟩
          rw [← hw5]
          have K5 := Lib.hid (show Since w2 w5 by rw [hw5]; exact ((since_alloc w2 (.cells #[.int .i64 19, .slice X0 0 xc0, .slice (some ad) 0 yc0, .int .i64 e0] 25)).trans Q4.out.s).set (p := ⟨w2.heap.size, 1, none⟩) (Nat.le_refl _) _)
          have D5 := Lib.hid (show Bx w5 w2.heap.size #[.int .i64 19, .slice B 0 bc, .slice (some ad) 0 yc0, .int .i64 e0] 25 by rw [hw5]; exact bxset D4.out 1 (.slice B 0 bc) rfl)
          have HLT := Lib.hid (show w2.heap.size < (w2.alloc (.cells #[.int .i64 19, .slice X0 0 xc0, .slice (some ad) 0 yc0, .int .i64 e0] 25)).heap.size by simp)
          have SX := Lib.hid (show Rz 3 (w2.alloc (.cells #[.int .i64 19, .slice X0 0 xc0, .slice (some ad) 0 yc0, .int .i64 e0] 25)).heap.size w5 (.slice B 0 bc) (rot z0.x q) by rw [hw5]; exact (Rz.of Q4.out).set (a := ⟨w2.heap.size, 1, none⟩) HLT.out _)
          have T5 := Lib.hid (T2.out.trans K5.out)
          have U5 := Lib.hid (U2.out.trans K5.out)
          have HL5 := Lib.hid (show w2.heap.size < w5.heap.size by rw [hw5]; have := Q4.out.s.size; simp [World.setCell] at *; omega)
          clear hw5 b0 b1 b2 b3 d0 d1 d2 d3 f0 f1 f2 f3 al0 al1 al2 al3
          have hr0 : Since w5 w5.drew := Since.drew (Since.refl w5)
          refine wp_region_noPanic ?_
          refine Reg.wp_region_G (S := fun _ => True) (fun j => [].contains j) (by kernel_rfl) trivial ?_
          refine' Reg.wpG_take (i := 0) (oi := { dst := some 80, op := Op.fieldAddr 25 (Operand.tmp 3) 2, type := 0, pos := "law.go:107", after := #[], guard := none }) (v := _) [1, 5, 7, 15, 16, 17] [] rfl rfl (by kernel_rfl) (by kernel_rfl) (by kernel_rfl) (by kernel_rfl) (by kernel_rfl) (by kernel_rfl) (by kernel_rfl) (fun _ _ _ h => h) (Or.inl ⟨by rfl, Or.inl ?hy47⟩) ?rest47
          case hy47 => (intro w' kk ss; obtain ⟨x0, x1, x2', x3⟩ := bx4 (B0.out.since (U5.out.trans (hr0.trans kk))); go_simp; first | done | with_reducible rfl)
          try simp only [Act.put, List.setIfInBounds_toArray, List.set_cons_zero, List.set_cons_succ]
          refine' Reg.wpG_take (i := 1) (oi := { dst := some 81, op := Op.load 23 (Operand.tmp 80), type := 23, pos := "law.go:107", after := #[{ on := 0, ground := Ground.data }], guard := none }) (v := _) [5, 7, 15, 16, 17] [] rfl rfl (by kernel_rfl) (by kernel_rfl) (by kernel_rfl) (by kernel_rfl) (by kernel_rfl) (by kernel_rfl) (by kernel_rfl) (fun _ _ _ h => h) (Or.inl ⟨by rfl, Or.inl ?hy48⟩) ?rest48
          case hy48 => (intro w' kk ss; obtain ⟨x0, x1, x2', x3⟩ := bx4 (B0.out.since (U5.out.trans (hr0.trans kk))); go_simp; first | done | with_reducible rfl)
          try simp only [Act.put, List.setIfInBounds_toArray, List.set_cons_zero, List.set_cons_succ]
          refine' Reg.wpG_take (i := 2) (oi := { dst := some 82, op := Op.fieldAddr 25 (Operand.tmp 3) 1, type := 0, pos := "law.go:107", after := #[], guard := none }) (v := _) [3, 4, 5, 7, 15, 16, 17] [] rfl rfl (by kernel_rfl) (by kernel_rfl) (by kernel_rfl) (by kernel_rfl) (by kernel_rfl) (by kernel_rfl) (by kernel_rfl) (fun _ _ _ h => h) (Or.inl ⟨by rfl, Or.inl ?hy49⟩) ?rest49
          case hy49 => (intro w' kk ss; obtain ⟨x0, x1, x2', x3⟩ := bx4 (B0.out.since (U5.out.trans (hr0.trans kk))); go_simp; first | done | with_reducible rfl)
          try simp only [Act.put, List.setIfInBounds_toArray, List.set_cons_zero, List.set_cons_succ]
          refine' Reg.wpG_take (i := 3) (oi := { dst := some 83, op := Op.load 22 (Operand.tmp 82), type := 22, pos := "law.go:107", after := #[{ on := 2, ground := Ground.data }], guard := none }) (v := _) [4, 5, 7, 15, 16, 17] [] rfl rfl (by kernel_rfl) (by kernel_rfl) (by kernel_rfl) (by kernel_rfl) (by kernel_rfl) (by kernel_rfl) (by kernel_rfl) (fun _ _ _ h => h) (Or.inl ⟨by rfl, Or.inl ?hy50⟩) ?rest50
          case hy50 => (intro w' kk ss; obtain ⟨x0, x1, x2', x3⟩ := bx4 (B0.out.since (U5.out.trans (hr0.trans kk))); go_simp; first | done | with_reducible rfl)
          try simp only [Act.put, List.setIfInBounds_toArray, List.set_cons_zero, List.set_cons_succ]
          refine' Reg.wpG_take (i := 4) (oi := { dst := some 84, op := Op.call { callee := Callee.builtin Builtin.len, args := #[Operand.tmp 83], argTypes := #[22] }, type := 3, pos := "law.go:107", after := #[{ on := 3, ground := Ground.data }], guard := none }) (v := _) [5, 7, 15, 16, 17] [] rfl rfl (by kernel_rfl) (by kernel_rfl) (by kernel_rfl) (by kernel_rfl) (by kernel_rfl) (by kernel_rfl) (by kernel_rfl) (fun _ _ _ h => h) (Or.inl ⟨by rfl, Or.inl ?hy51⟩) ?rest51
          case hy51 => (intro w' kk ss; obtain ⟨x0, x1, x2', x3⟩ := bx4 (B0.out.since (U5.out.trans (hr0.trans kk))); go_simp; first | done | with_reducible rfl)
          try simp only [Act.put, List.setIfInBounds_toArray, List.set_cons_zero, List.set_cons_succ]
          refine' Reg.wpG_take (i := 5) (oi := { dst := some 85, op := Op.slice 23 (Operand.tmp 81) none (some (Operand.tmp 84)) none, type := 23, pos := "law.go:107", after := #[{ on := 1, ground := Ground.data }, { on := 4, ground := Ground.data }], guard := none }) (v := _) [7, 15, 16, 17] [] rfl rfl (by kernel_rfl) (by kernel_rfl) (by kernel_rfl) (by kernel_rfl) (by kernel_rfl) (by kernel_rfl) (by kernel_rfl) (fun _ _ _ h => h) (Or.inl ⟨by rfl, Or.inl ?hy52⟩) ?rest52
          case hy52 => (intro w' kk ss; obtain ⟨x0, x1, x2', x3⟩ := bx4 (B0.out.since (U5.out.trans (hr0.trans kk))); go_simp; first | done | with_reducible rfl)
          try simp only [Act.put, List.setIfInBounds_toArray, List.set_cons_zero, List.set_cons_succ]
          refine' Reg.wpG_take (i := 6) (oi := { dst := some 86, op := Op.move (Operand.tmp 2), type := 5, pos := "law.go:107", after := #[], guard := none }) (v := _) [7, 15, 16, 17] [] rfl rfl (by kernel_rfl) (by kernel_rfl) (by kernel_rfl) (by kernel_rfl) (by kernel_rfl) (by kernel_rfl) (by kernel_rfl) (fun _ _ _ h => h) (Or.inl ⟨by rfl, Or.inl ?hy53⟩) ?rest53
          case hy53 => (intro w' kk ss; obtain ⟨x0, x1, x2', x3⟩ := bx4 (B0.out.since (U5.out.trans (hr0.trans kk))); go_simp; first | done | with_reducible rfl)
          try simp only [Act.put, List.setIfInBounds_toArray, List.set_cons_zero, List.set_cons_succ]
          refine' Reg.wpG_take (i := 8) (oi := { dst := some 88, op := Op.fieldAddr 25 (Operand.tmp 3) 2, type := 0, pos := "law.go:107", after := #[], guard := none }) (v := _) [9, 13, 15, 16, 17] [] rfl rfl (by kernel_rfl) (by kernel_rfl) (by kernel_rfl) (by kernel_rfl) (by kernel_rfl) (by kernel_rfl) (by kernel_rfl) (fun _ _ _ h => h) (Or.inl ⟨by rfl, Or.inl ?hy54⟩) ?rest54
          case hy54 => (intro w' kk ss; obtain ⟨x0, x1, x2', x3⟩ := bx4 (B0.out.since (U5.out.trans (hr0.trans kk))); go_simp; first | done | with_reducible rfl)
          try simp only [Act.put, List.setIfInBounds_toArray, List.set_cons_zero, List.set_cons_succ]
          refine' Reg.wpG_take (i := 9) (oi := { dst := some 89, op := Op.load 23 (Operand.tmp 88), type := 23, pos := "law.go:107", after := #[{ on := 8, ground := Ground.data }], guard := none }) (v := _) [13, 15, 16, 17] [] rfl rfl (by kernel_rfl) (by kernel_rfl) (by kernel_rfl) (by kernel_rfl) (by kernel_rfl) (by kernel_rfl) (by kernel_rfl) (fun _ _ _ h => h) (Or.inl ⟨by rfl, Or.inl ?hy55⟩) ?rest55
          case hy55 => (intro w' kk ss; obtain ⟨x0, x1, x2', x3⟩ := bx4 (B0.out.since (U5.out.trans (hr0.trans kk))); go_simp; first | done | with_reducible rfl)
          try simp only [Act.put, List.setIfInBounds_toArray, List.set_cons_zero, List.set_cons_succ]
          refine' Reg.wpG_take (i := 10) (oi := { dst := some 90, op := Op.fieldAddr 25 (Operand.tmp 3) 1, type := 0, pos := "law.go:107", after := #[], guard := none }) (v := _) [11, 12, 13, 15, 16, 17] [] rfl rfl (by kernel_rfl) (by kernel_rfl) (by kernel_rfl) (by kernel_rfl) (by kernel_rfl) (by kernel_rfl) (by kernel_rfl) (fun _ _ _ h => h) (Or.inl ⟨by rfl, Or.inl ?hy56⟩) ?rest56
          case hy56 => (intro w' kk ss; obtain ⟨x0, x1, x2', x3⟩ := bx4 (B0.out.since (U5.out.trans (hr0.trans kk))); go_simp; first | done | with_reducible rfl)
          try simp only [Act.put, List.setIfInBounds_toArray, List.set_cons_zero, List.set_cons_succ]
          refine' Reg.wpG_take (i := 11) (oi := { dst := some 91, op := Op.load 22 (Operand.tmp 90), type := 22, pos := "law.go:107", after := #[{ on := 10, ground := Ground.data }], guard := none }) (v := _) [12, 13, 15, 16, 17] [] rfl rfl (by kernel_rfl) (by kernel_rfl) (by kernel_rfl) (by kernel_rfl) (by kernel_rfl) (by kernel_rfl) (by kernel_rfl) (fun _ _ _ h => h) (Or.inl ⟨by rfl, Or.inl ?hy57⟩) ?rest57
          case hy57 => (intro w' kk ss; obtain ⟨x0, x1, x2', x3⟩ := bx4 (B0.out.since (U5.out.trans (hr0.trans kk))); go_simp; first | done | with_reducible rfl)
          try simp only [Act.put, List.setIfInBounds_toArray, List.set_cons_zero, List.set_cons_succ]
          refine' Reg.wpG_take (i := 12) (oi := { dst := some 92, op := Op.call { callee := Callee.builtin Builtin.len, args := #[Operand.tmp 91], argTypes := #[22] }, type := 3, pos := "law.go:107", after := #[{ on := 11, ground := Ground.data }], guard := none }) (v := _) [13, 15, 16, 17] [] rfl rfl (by kernel_rfl) (by kernel_rfl) (by kernel_rfl) (by kernel_rfl) (by kernel_rfl) (by kernel_rfl) (by kernel_rfl) (fun _ _ _ h => h) (Or.inl ⟨by rfl, Or.inl ?hy58⟩) ?rest58
          case hy58 => (intro w' kk ss; obtain ⟨x0, x1, x2', x3⟩ := bx4 (B0.out.since (U5.out.trans (hr0.trans kk))); go_simp; first | done | with_reducible rfl)
          try simp only [Act.put, List.setIfInBounds_toArray, List.set_cons_zero, List.set_cons_succ]
          refine' Reg.wpG_take (i := 13) (oi := { dst := some 93, op := Op.slice 23 (Operand.tmp 89) (some (Operand.tmp 92)) none none, type := 23, pos := "law.go:107", after := #[{ on := 9, ground := Ground.data }, { on := 12, ground := Ground.data }], guard := none }) (v := _) [15, 16, 17] [] rfl rfl (by kernel_rfl) (by kernel_rfl) (by kernel_rfl) (by kernel_rfl) (by kernel_rfl) (by kernel_rfl) (by kernel_rfl) (fun _ _ _ h => h) (Or.inl ⟨by rfl, Or.inl ?hy59⟩) ?rest59
          case hy59 => (intro w' kk ss; obtain ⟨x0, x1, x2', x3⟩ := bx4 (B0.out.since (U5.out.trans (hr0.trans kk))); go_simp; first | done | with_reducible rfl)
          try simp only [Act.put, List.setIfInBounds_toArray, List.set_cons_zero, List.set_cons_succ]
          refine' Reg.wpG_take (i := 14) (oi := { dst := some 94, op := Op.move (Operand.tmp 2), type := 5, pos := "law.go:107", after := #[], guard := none }) (v := _) [15, 16, 17] [] rfl rfl (by kernel_rfl) (by kernel_rfl) (by kernel_rfl) (by kernel_rfl) (by kernel_rfl) (by kernel_rfl) (by kernel_rfl) (fun _ _ _ h => h) (Or.inl ⟨by rfl, Or.inl ?hy60⟩) ?rest60
          case hy60 => (intro w' kk ss; obtain ⟨x0, x1, x2', x3⟩ := bx4 (B0.out.since (U5.out.trans (hr0.trans kk))); go_simp; first | done | with_reducible rfl)
          try simp only [Act.put, List.setIfInBounds_toArray, List.set_cons_zero, List.set_cons_succ]
          refine Reg.wpG_ready (rs := [7]) (by kernel_rfl) (by simp) (fun wq46001 k46001' sq46001 => ?_)
          have hr0 := hr0.trans k46001'
          refine Reg.AllG.first (o := { dst := some 87, op := Op.call { callee := Callee.value (Operand.func 23), args := #[Operand.tmp 85, Operand.tmp 86], argTypes := #[23, 5] }, type := 23, pos := "law.go:107", after := #[{ on := 5, ground := Ground.data }, { on := 6, ground := Ground.data }], guard := none }) rfl (by rfl) (fun K hK => ?_) Reg.AllG.nil
          go_simp
          (with_reducible refine ((TZ.out w5 _ _ wq46001 hr0)).mono ?_)
          rintro e y46001 ⟨B1, c1, rfl, q1, hx⟩
          refine hK.out _ _ trivial hx ?_
          clear hK K
          have hr0 := hr0.trans hx
          clear hx
          try simp only [Act.put, List.setIfInBounds_toArray, List.set_cons_zero, List.set_cons_succ]
          refine Reg.wpG_ready (rs := [15]) (by kernel_rfl) (by simp) (fun wq46002 k46002' sq46002 => ?_)
          have hr0 := hr0.trans k46002'
          have q1 := q1.since k46002'
          refine Reg.AllG.first (o := { dst := some 95, op := Op.call { callee := Callee.value (Operand.func 23), args := #[Operand.tmp 93, Operand.tmp 94], argTypes := #[23, 5] }, type := 23, pos := "law.go:107", after := #[{ on := 13, ground := Ground.data }, { on := 14, ground := Ground.data }, { on := 7, ground := Ground.chain }], guard := none }) rfl (by rfl) (fun K hK => ?_) Reg.AllG.nil
          go_simp
          (with_reducible refine ((TZ.out w5 _ _ wq46002 hr0)).mono ?_)
          rintro e y46002 ⟨B2, c2, rfl, q2, hx⟩
          refine hK.out _ _ trivial hx ?_
          clear hK K
          have hr0 := hr0.trans hx
          have q1 := q1.since hx
          clear hx
          try simp only [Act.put, List.setIfInBounds_toArray, List.set_cons_zero, List.set_cons_succ]
          refine' Reg.wpG_take (i := 16) (oi := { dst := some 11, op := Op.assign (Operand.tmp 87), type := 23, pos := "law.go:107", after := #[{ on := 7, ground := Ground.data }, { on := 15, ground := Ground.chain }, { on := 0, ground := Ground.phase }, { on := 1, ground := Ground.phase }, { on := 2, ground := Ground.phase }, { on := 3, ground := Ground.phase }, { on := 4, ground := Ground.phase }, { on := 5, ground := Ground.phase }, { on := 6, ground := Ground.phase }, { on := 7, ground := Ground.phase }, { on := 8, ground := Ground.textOnly Departure.lateStores }, { on := 9, ground := Ground.textOnly Departure.lateStores }, { on := 10, ground := Ground.textOnly Departure.lateStores }, { on := 11, ground := Ground.textOnly Departure.lateStores }, { on := 12, ground := Ground.textOnly Departure.lateStoresUnsure }, { on := 13, ground := Ground.textOnly Departure.lateStoresUnsure }, { on := 14, ground := Ground.textOnly Departure.lateStores }, { on := 15, ground := Ground.textOnly Departure.lateStoresUnsure }], guard := none }) (v := _) [17] [] rfl rfl (by kernel_rfl) (by kernel_rfl) (by kernel_rfl) (by kernel_rfl) (by kernel_rfl) (by kernel_rfl) (by kernel_rfl) (fun _ _ _ h => h) (Or.inl ⟨by rfl, Or.inl ?hy61⟩) ?rest61
          case hy61 => (intro w' kk ss; obtain ⟨x0, x1, x2', x3⟩ := bx4 (B0.out.since (U5.out.trans (hr0.trans kk))); go_simp; first | done | with_reducible rfl)
          try simp only [Act.put, List.setIfInBounds_toArray, List.set_cons_zero, List.set_cons_succ]
          refine' Reg.wpG_take (i := 17) (oi := { dst := some 12, op := Op.assign (Operand.tmp 95), type := 23, pos := "law.go:107", after := #[{ on := 15, ground := Ground.data }, { on := 16, ground := Ground.chain }, { on := 0, ground := Ground.phase }, { on := 1, ground := Ground.phase }, { on := 2, ground := Ground.phase }, { on := 3, ground := Ground.phase }, { on := 4, ground := Ground.phase }, { on := 5, ground := Ground.phase }, { on := 6, ground := Ground.phase }, { on := 7, ground := Ground.phase }, { on := 8, ground := Ground.phase }, { on := 9, ground := Ground.phase }, { on := 10, ground := Ground.phase }, { on := 11, ground := Ground.phase }, { on := 12, ground := Ground.phase }, { on := 13, ground := Ground.phase }, { on := 14, ground := Ground.phase }, { on := 15, ground := Ground.phase }, { on := 16, ground := Ground.phase }], guard := none }) (v := _) [] [] rfl rfl (by kernel_rfl) (by kernel_rfl) (by kernel_rfl) (by kernel_rfl) (by kernel_rfl) (by kernel_rfl) (by kernel_rfl) (fun _ _ _ h => h) (Or.inl ⟨by rfl, Or.inl ?hy62⟩) ?rest62
          case hy62 => (intro w' kk ss; obtain ⟨x0, x1, x2', x3⟩ := bx4 (B0.out.since (U5.out.trans (hr0.trans kk))); go_simp; first | done | with_reducible rfl)
          try simp only [Act.put, List.setIfInBounds_toArray, List.set_cons_zero, List.set_cons_succ]
          refine Reg.wpG_done (by kernel_rfl) (fun we ke se => ?_) _
          refine NoPanic.normal ?_
          have hr0 := hr0.trans ke
          have q1 := q1.since ke
          have q2 := q2.since ke
          clear ke
          obtain ⟨bb1, hb1, q1⟩ := q1
          obtain ⟨bb2, hb2, q2⟩ := q2
          have Q1 := Lib.hid q1
          have Q2 := Lib.hid q2
          have HB1 := Lib.hid hb1
          clear q1 q2 hb1 hb2
          have GG := Lib.hid (show w2.heap.size < bb1.heap.size ∧ w.heap.size < bb1.heap.size by have := HB1.out.size; have := K5.out.size; have h5 := D5.out; have := T2.out.size; have := U2.out.size; have hlt5 := HL5.out; simp at *; omega)
          have Be := Lib.hid (B0.out.since (U5.out.trans hr0))
          have De := Lib.hid (D5.out.since hr0)
          obtain ⟨b0, b1, b2, b3⟩ := bx4 Be.out
          obtain ⟨d0, d1, d2, d3⟩ := bx4 De.out
          obtain ⟨f0, f1, f2, f3⟩ := bx4' De.out
          have HLL := Lib.hid (show (rot ([] : List Int) q).length + (rot ([] : List Int) q).length ≤ 1000000 by simp [rot_len])
          have HSUM := Lib.hid (show (rot ([] : List Int) q).length + (rot ([] : List Int) q).length = 0 by simp [rot_len])
          go_wp2_with (at_builtin; refine wpList_cat Q1.out Q2.out HLL.out (by rfl) _ _ rfl rfl rfl ?_; rw [HSUM.out]; intro A c8 w8 h8 k8; have H8 := Lib.hid h8; have B8 := Lib.hid (Q1.out.bx Be.out GG.out.2 k8); have D8 := Lib.hid (Q1.out.bx De.out GG.out.1 k8); clear h8 k8; obtain ⟨b0, b1, b2, b3⟩ := bx4 B8.out; obtain ⟨d0, d1, d2, d3⟩ := bx4 D8.out; obtain ⟨f0, f1, f2, f3⟩ := bx4' D8.out)
          obtain ⟨w9, hw9⟩ : ∃ w9, w9 = w8.setCell ⟨w2.heap.size, 2, none⟩ (.slice A 0 c8) := ⟨_, rfl⟩
          rw [← hw9]
          have K8 := Lib.hid (HB1.out.trans H8.out.s)
          have K9 := Lib.hid (show Since w2 w9 by rw [hw9]; exact (K5.out.trans K8.out).set (p := ⟨w2.heap.size, 2, none⟩) (Nat.le_refl _) _)
          have D9 := Lib.hid (show Bx w9 w2.heap.size #[.int .i64 19, .slice B 0 bc, .slice A 0 c8, .int .i64 e0] 25 by rw [hw9]; exact bxset D8.out 2 (.slice A 0 c8) rfl)
          have SX9 := Lib.hid (show Sl 1 QI w9 (.slice B 0 bc) (rot z0.x q) by rw [hw9]; exact ((SX.out.since K8.out).set (a := ⟨w2.heap.size, 2, none⟩) HLT.out _).sl)
          have SA9 := Lib.hid (show Sl 1 QI w9 (.slice A 0 c8) (rot ([] : List Int) q ++ rot ([] : List Int) q) by rw [hw9]; exact ((Rz.of H8.out).set (a := ⟨w2.heap.size, 2, none⟩) GG.out.1 _).sl)
          have T9 := Lib.hid (T2.out.trans K9.out)
          have U9 := Lib.hid (U2.out.trans K9.out)
          have HRA := Lib.hid (show rot ([] : List Int) q ++ rot ([] : List Int) q = rotA (q % z0.x.length) z0 by have := rot_rotA z0 HN.out H2N.out q; rw [HLA.out] at this; exact this)
          have CD := Lib.hid (show ConAt w9 (.agg #[.int .i64 19, .slice B 0 bc, .slice A 0 c8, .int .i64 e0]) ⟨z0.k, rotL (q % z0.x.length) z0.x, rotA (q % z0.x.length) z0, z0.c⟩ from ⟨.slice B 0 bc, .slice A 0 c8, by rw [← HK0.out, ← HE0.out], by rw [← rot_eq]; exact SX9.out, by rw [← HRA.out]; exact SA9.out⟩)
          have HD := Lib.hid (fun W k => holds_at CD.out (HA.out.since stI T9.out) (by simp only; rw [(rotA_perm _ _).length_eq]; have := HF2.out; omega) (by have := HF3.out; omega) ((turned_same _ _ (by have := HK0.out; omega) (rotA_perm _ _) (fun h => ⟨rfl, H2N.out⟩)).trans HR.out) W k)
          clear hr0 hw9 b0 b1 b2 b3 d0 d1 d2 d3 f0 f1 f2 f3 Be De B8 D8 H8 Q1 Q2
          have hr0 : Since w9 w9.drew := Since.drew (Since.refl w9)
          refine wp_region_noPanic ?_
          refine Reg.wp_region_G (S := fun _ => True) (fun j => [].contains j) (by kernel_rfl) trivial ?_
          refine' Reg.wpG_take (i := 0) (oi := { dst := some 100, op := Op.load 25 (Operand.tmp 7), type := 25, pos := "law.go:112", after := #[], guard := none }) (v := _) [2, 5, 6, 7] [] rfl rfl (by kernel_rfl) (by kernel_rfl) (by kernel_rfl) (by kernel_rfl) (by kernel_rfl) (by kernel_rfl) (by kernel_rfl) (fun _ _ _ h => h) (Or.inl ⟨by rfl, Or.inl ?hy64⟩) ?rest64
          case hy64 => (intro w' kk ss; obtain ⟨x0, x1, x2', x3⟩ := bx4 (B0.out.since (U9.out.trans (hr0.trans kk))); obtain ⟨y0, y1, y2', y3⟩ := bx4 (D9.out.since (hr0.trans kk)); go_simp; first | done | with_reducible rfl)
          try simp only [Act.put, List.setIfInBounds_toArray, List.set_cons_zero, List.set_cons_succ]
          refine' Reg.wpG_take (i := 1) (oi := { dst := some 101, op := Op.move (Operand.tmp 1), type := 23, pos := "law.go:112", after := #[], guard := none }) (v := _) [2, 5, 6, 7] [] rfl rfl (by kernel_rfl) (by kernel_rfl) (by kernel_rfl) (by kernel_rfl) (by kernel_rfl) (by kernel_rfl) (by kernel_rfl) (fun _ _ _ h => h) (Or.inl ⟨by rfl, Or.inl ?hy65⟩) ?rest65
          case hy65 => (intro w' kk ss; obtain ⟨x0, x1, x2', x3⟩ := bx4 (B0.out.since (U9.out.trans (hr0.trans kk))); obtain ⟨y0, y1, y2', y3⟩ := bx4 (D9.out.since (hr0.trans kk)); go_simp; first | done | with_reducible rfl)
          try simp only [Act.put, List.setIfInBounds_toArray, List.set_cons_zero, List.set_cons_succ]
          refine Reg.wpG_take (i := 2) (oi := { dst := some 102, op := Op.call { callee := Callee.value (Operand.func 14), args := #[Operand.tmp 100, Operand.tmp 101], argTypes := #[25, 23] }, type := 4, pos := "law.go:112", after := #[{ on := 0, ground := Ground.data }, { on := 1, ground := Ground.data }], guard := none }) (v := .bool R) [5, 6, 7] [] rfl rfl (by kernel_rfl) (by kernel_rfl) (by kernel_rfl) (by kernel_rfl) (by kernel_rfl) (by kernel_rfl) (by kernel_rfl) (fun _ _ _ h => h) (Or.inl ⟨by rfl, Or.inr ⟨14, #[.agg #[.int .i64 19, .slice B 0 bc, .slice A 0 c8, .int .i64 e0], .slice a1 len1 cap1], fun w' kk ss => ⟨?_, ?_⟩⟩⟩) ?_
          · (try dsimp only at ss); go_simp
          · exact HD.out w' (hr0.trans kk)
          try simp only [Act.put, List.setIfInBounds_toArray, List.set_cons_zero, List.set_cons_succ]
          refine' Reg.wpG_take (i := 3) (oi := { dst := some 103, op := Op.load 25 (Operand.tmp 3), type := 25, pos := "law.go:112", after := #[], guard := none }) (v := _) [5, 6, 7] [] rfl rfl (by kernel_rfl) (by kernel_rfl) (by kernel_rfl) (by kernel_rfl) (by kernel_rfl) (by kernel_rfl) (by kernel_rfl) (fun _ _ _ h => h) (Or.inl ⟨by rfl, Or.inl ?hy66⟩) ?rest66
          case hy66 => (intro w' kk ss; obtain ⟨x0, x1, x2', x3⟩ := bx4 (B0.out.since (U9.out.trans (hr0.trans kk))); obtain ⟨y0, y1, y2', y3⟩ := bx4 (D9.out.since (hr0.trans kk)); go_simp; first | done | with_reducible rfl)
          try simp only [Act.put, List.setIfInBounds_toArray, List.set_cons_zero, List.set_cons_succ]
          refine' Reg.wpG_take (i := 4) (oi := { dst := some 104, op := Op.move (Operand.tmp 1), type := 23, pos := "law.go:112", after := #[], guard := none }) (v := _) [5, 6, 7] [] rfl rfl (by kernel_rfl) (by kernel_rfl) (by kernel_rfl) (by kernel_rfl) (by kernel_rfl) (by kernel_rfl) (by kernel_rfl) (fun _ _ _ h => h) (Or.inl ⟨by rfl, Or.inl ?hy67⟩) ?rest67
          case hy67 => (intro w' kk ss; obtain ⟨x0, x1, x2', x3⟩ := bx4 (B0.out.since (U9.out.trans (hr0.trans kk))); obtain ⟨y0, y1, y2', y3⟩ := bx4 (D9.out.since (hr0.trans kk)); go_simp; first | done | with_reducible rfl)
          try simp only [Act.put, List.setIfInBounds_toArray, List.set_cons_zero, List.set_cons_succ]
          refine Reg.wpG_take (i := 5) (oi := { dst := some 105, op := Op.call { callee := Callee.value (Operand.func 14), args := #[Operand.tmp 103, Operand.tmp 104], argTypes := #[25, 23] }, type := 4, pos := "law.go:112", after := #[{ on := 3, ground := Ground.data }, { on := 4, ground := Ground.data }, { on := 2, ground := Ground.chain }], guard := none }) (v := .bool R) [6, 7] [] rfl rfl (by kernel_rfl) (by kernel_rfl) (by kernel_rfl) (by kernel_rfl) (by kernel_rfl) (by kernel_rfl) (by kernel_rfl) (fun _ _ _ h => h) (Or.inl ⟨by rfl, Or.inr ⟨14, #[.agg #[.int .i64 19, .slice X0 0 xc0, .slice (some ad) 0 yc0, .int .i64 e0], .slice a1 len1 cap1], fun w' kk ss => ⟨?_, ?_⟩⟩⟩) ?_
          · (try dsimp only at ss); go_simp
          · exact HH.out w' (T9.out.trans (hr0.trans kk))
          try simp only [Act.put, List.setIfInBounds_toArray, List.set_cons_zero, List.set_cons_succ]
          refine' Reg.wpG_take (i := 6) (oi := { dst := some 106, op := Op.binOp BinOp.eql 4 (Operand.tmp 102) (Operand.tmp 105) 4, type := 4, pos := "law.go:112", after := #[{ on := 2, ground := Ground.data }, { on := 5, ground := Ground.data }], guard := none }) (v := _) [7] [] rfl rfl (by kernel_rfl) (by kernel_rfl) (by kernel_rfl) (by kernel_rfl) (by kernel_rfl) (by kernel_rfl) (by kernel_rfl) (fun _ _ _ h => h) (Or.inl ⟨by rfl, Or.inl ?hy68⟩) ?rest68
          case hy68 => (intro w' kk ss; obtain ⟨x0, x1, x2', x3⟩ := bx4 (B0.out.since (U9.out.trans (hr0.trans kk))); obtain ⟨y0, y1, y2', y3⟩ := bx4 (D9.out.since (hr0.trans kk)); go_simp; first | done | with_reducible rfl)
          try simp only [Act.put, List.setIfInBounds_toArray, List.set_cons_zero, List.set_cons_succ]
          refine' Reg.wpG_take (i := 7) (oi := { dst := some 6, op := Op.assign (Operand.tmp 106), type := 4, pos := "law.go:112", after := #[{ on := 6, ground := Ground.data }, { on := 5, ground := Ground.chain }, { on := 0, ground := Ground.phase }, { on := 1, ground := Ground.phase }, { on := 2, ground := Ground.phase }, { on := 3, ground := Ground.phase }, { on := 4, ground := Ground.phase }, { on := 5, ground := Ground.phase }, { on := 6, ground := Ground.phase }], guard := none }) (v := _) [] [] rfl rfl (by kernel_rfl) (by kernel_rfl) (by kernel_rfl) (by kernel_rfl) (by kernel_rfl) (by kernel_rfl) (by kernel_rfl) (fun _ _ _ h => h) (Or.inl ⟨by rfl, Or.inl ?hy69⟩) ?rest69
          case hy69 => (intro w' kk ss; obtain ⟨x0, x1, x2', x3⟩ := bx4 (B0.out.since (U9.out.trans (hr0.trans kk))); obtain ⟨y0, y1, y2', y3⟩ := bx4 (D9.out.since (hr0.trans kk)); go_simp; first | done | with_reducible rfl)
          try simp only [Act.put, List.setIfInBounds_toArray, List.set_cons_zero, List.set_cons_succ]
          refine Reg.wpG_done (by kernel_rfl) (fun we ke se => ?_) _
          refine NoPanic.normal ?_
          have hr0 := hr0.trans ke
          clear ke
          go_wp2
          go_ret
          exact RetT.of (by simp) (T9.out.trans hr0)
      · skip
        have hnp : 0 < n0 := by omega
        have hnm : n0 < m0 := by omega
        have hyc : m0 ≤ yc0 := by have := HY.out.at_.2; have := HM.out; omega
        have hnc : n0 ≤ yc0 := by omega
        have hnle : n0 ≤ m0 := by omega
        have hle2 : (n0 : Int) ≤ 2 * (n0 : Int) := by omega
        have hne2 : ¬ yc0 = n0 := by omega
        obtain ⟨gy, oy, hyy, -⟩ := elI HY.out (i := 0) (by have := HM.out; omega)
        subst hyy
        go_enter Try.func6, Try.ntmps6
        go_wp2_with (first | (go_at_call 10; (with_reducible refine (AL.out _).mono ?_); rintro e w1 ⟨rfl, k1⟩; have K1 := Lib.hid k1; have T1 := Lib.hid (S0.out.trans k1); obtain ⟨b0, b1, b2, b3⟩ := bx4 (B0.out.since k1); clear k1) | (go_at_call 11; (with_reducible refine (FI.out _ T1.out).mono ?_); rintro e w2 ⟨rfl, k2⟩; have T2 := Lib.hid (T1.out.trans k2); have U2 := Lib.hid (K1.out.trans k2); clear k2; obtain ⟨b0, b1, b2, b3⟩ := bx4 (B0.out.since U2.out); have aa : ∀ cs t, _ := fun cs t => bx4 ((B0.out.since U2.out).since (since_alloc w2 (.cells cs t))); obtain ⟨al0, al1, al2, al3⟩ : (∀ cs t, (w2.alloc (.cells cs t)).cell? ⟨w.heap.size, 0, none⟩ = some _) ∧ (∀ cs t, (w2.alloc (.cells cs t)).cell? ⟨w.heap.size, 1, none⟩ = some _) ∧ (∀ cs t, (w2.alloc (.cells cs t)).cell? ⟨w.heap.size, 2, none⟩ = some _) ∧ (∀ cs t, (w2.alloc (.cells cs t)).cell? ⟨w.heap.size, 3, none⟩ = some _) := ⟨fun cs t => (aa cs t).1, fun cs t => (aa cs t).2.1, fun cs t => (aa cs t).2.2.1, fun cs t => (aa cs t).2.2.2⟩; clear aa) | (go_at_call 22; (with_reducible refine (TI.out _ (T2.out.trans (since_alloc _ _))).mono ?_); rintro e w4 ⟨B, bc, rfl, q4⟩; have Q4 := Lib.hid q4; clear q4; have D4 := Lib.hid ((Bx.fresh w2 #[.int .i64 19, .slice X0 n0 xc0, .slice (some ⟨gy, oy, none⟩) m0 yc0, .int .i64 e0] 25).since Q4.out.s); obtain ⟨d0, d1, d2, d3⟩ := bx4 D4.out; obtain ⟨f0, f1, f2, f3⟩ := bx4' D4.out))
        obtain ⟨w5, hw5⟩ : ∃ w5, w5 = w4.setCell ⟨w2.heap.size, 1, none⟩ (.slice B n0 bc) := ⟨_, rfl⟩
        rw [← hw5]
        have K5 := Lib.hid (show Since w2 w5 by rw [hw5]; exact ((since_alloc w2 (.cells #[.int .i64 19, .slice X0 n0 xc0, .slice (some ⟨gy, oy, none⟩) m0 yc0, .int .i64 e0] 25)).trans Q4.out.s).set (p := ⟨w2.heap.size, 1, none⟩) (Nat.le_refl _) _)
        have D5 := Lib.hid (show Bx w5 w2.heap.size #[.int .i64 19, .slice B n0 bc, .slice (some ⟨gy, oy, none⟩) m0 yc0, .int .i64 e0] 25 by rw [hw5]; exact bxset D4.out 1 (.slice B n0 bc) rfl)
        have HLT := Lib.hid (show w2.heap.size < (w2.alloc (.cells #[.int .i64 19, .slice X0 n0 xc0, .slice (some ⟨gy, oy, none⟩) m0 yc0, .int .i64 e0] 25)).heap.size by simp)
        have SX := Lib.hid (show Rz 3 (w2.alloc (.cells #[.int .i64 19, .slice X0 n0 xc0, .slice (some ⟨gy, oy, none⟩) m0 yc0, .int .i64 e0] 25)).heap.size w5 (.slice B n0 bc) (rot z0.x q) by rw [hw5]; exact (Rz.of Q4.out).set (a := ⟨w2.heap.size, 1, none⟩) HLT.out _)
        have T5 := Lib.hid (T2.out.trans K5.out)
        have U5 := Lib.hid (U2.out.trans K5.out)
        have P1 := Lib.hid (slTakeI (HY.out.since stI T5.out) n0 (by omega))
        obtain ⟨gq, oq, hgq, P2⟩ := slDropI (HY.out.since stI T5.out) n0 (by omega)
        cases hgq
        have P2 := Lib.hid P2
        have TL1 := Lib.hid (fun W (k : Since w5 W) => turned_part (n := n0) (q := q) P1.out (by rw [List.length_take]; have := HM.out; omega) (by omega) hq W k)
        have TL2 := Lib.hid (fun W (k : Since w5 W) => turned_part (n := n0) (q := q) P2.out (by rw [List.length_drop]; have := HM.out; omega) (by omega) hq W k)
        have HL5 := Lib.hid (show w2.heap.size < w5.heap.size by rw [hw5]; have := Q4.out.s.size; simp [World.setCell] at *; omega)
        clear hw5 b0 b1 b2 b3 d0 d1 d2 d3 f0 f1 f2 f3 al0 al1 al2 al3
        have hr0 : Since w5 w5.drew := Since.drew (Since.refl w5)
        refine wp_region_noPanic ?_
        refine Reg.wp_region_G (S := fun _ => True) (fun j => [].contains j) (by kernel_rfl) trivial ?_
        refine' Reg.wpG_take (i := 0) (oi := { dst := some 80, op := Op.fieldAddr 25 (Operand.tmp 3) 2, type := 0, pos := "law.go:107", after := #[], guard := none }) (v := _) [1, 5, 7, 15, 16, 17] [] rfl rfl (by kernel_rfl) (by kernel_rfl) (by kernel_rfl) (by kernel_rfl) (by kernel_rfl) (by kernel_rfl) (by kernel_rfl) (fun _ _ _ h => h) (Or.inl ⟨by rfl, Or.inl ?hy71⟩) ?rest71
        case hy71 => (intro w' kk ss; obtain ⟨x0, x1, x2', x3⟩ := bx4 (B0.out.since (U5.out.trans (hr0.trans kk))); go_simp; first | done | with_reducible rfl)
        try simp only [Act.put, List.setIfInBounds_toArray, List.set_cons_zero, List.set_cons_succ]
        refine' Reg.wpG_take (i := 1) (oi := { dst := some 81, op := Op.load 23 (Operand.tmp 80), type := 23, pos := "law.go:107", after := #[{ on := 0, ground := Ground.data }], guard := none }) (v := _) [5, 7, 15, 16, 17] [] rfl rfl (by kernel_rfl) (by kernel_rfl) (by kernel_rfl) (by kernel_rfl) (by kernel_rfl) (by kernel_rfl) (by kernel_rfl) (fun _ _ _ h => h) (Or.inl ⟨by rfl, Or.inl ?hy72⟩) ?rest72
        case hy72 => (intro w' kk ss; obtain ⟨x0, x1, x2', x3⟩ := bx4 (B0.out.since (U5.out.trans (hr0.trans kk))); go_simp; first | done | with_reducible rfl)
        try simp only [Act.put, List.setIfInBounds_toArray, List.set_cons_zero, List.set_cons_succ]
        refine' Reg.wpG_take (i := 2) (oi := { dst := some 82, op := Op.fieldAddr 25 (Operand.tmp 3) 1, type := 0, pos := "law.go:107", after := #[], guard := none }) (v := _) [3, 4, 5, 7, 15, 16, 17] [] rfl rfl (by kernel_rfl) (by kernel_rfl) (by kernel_rfl) (by kernel_rfl) (by kernel_rfl) (by kernel_rfl) (by kernel_rfl) (fun _ _ _ h => h) (Or.inl ⟨by rfl, Or.inl ?hy73⟩) ?rest73
        case hy73 => (intro w' kk ss; obtain ⟨x0, x1, x2', x3⟩ := bx4 (B0.out.since (U5.out.trans (hr0.trans kk))); go_simp; first | done | with_reducible rfl)
        try simp only [Act.put, List.setIfInBounds_toArray, List.set_cons_zero, List.set_cons_succ]
        refine' Reg.wpG_take (i := 3) (oi := { dst := some 83, op := Op.load 22 (Operand.tmp 82), type := 22, pos := "law.go:107", after := #[{ on := 2, ground := Ground.data }], guard := none }) (v := _) [4, 5, 7, 15, 16, 17] [] rfl rfl (by kernel_rfl) (by kernel_rfl) (by kernel_rfl) (by kernel_rfl) (by kernel_rfl) (by kernel_rfl) (by kernel_rfl) (fun _ _ _ h => h) (Or.inl ⟨by rfl, Or.inl ?hy74⟩) ?rest74
        case hy74 => (intro w' kk ss; obtain ⟨x0, x1, x2', x3⟩ := bx4 (B0.out.since (U5.out.trans (hr0.trans kk))); go_simp; first | done | with_reducible rfl)
        try simp only [Act.put, List.setIfInBounds_toArray, List.set_cons_zero, List.set_cons_succ]
        refine' Reg.wpG_take (i := 4) (oi := { dst := some 84, op := Op.call { callee := Callee.builtin Builtin.len, args := #[Operand.tmp 83], argTypes := #[22] }, type := 3, pos := "law.go:107", after := #[{ on := 3, ground := Ground.data }], guard := none }) (v := _) [5, 7, 15, 16, 17] [] rfl rfl (by kernel_rfl) (by kernel_rfl) (by kernel_rfl) (by kernel_rfl) (by kernel_rfl) (by kernel_rfl) (by kernel_rfl) (fun _ _ _ h => h) (Or.inl ⟨by rfl, Or.inl ?hy75⟩) ?rest75
        case hy75 => (intro w' kk ss; obtain ⟨x0, x1, x2', x3⟩ := bx4 (B0.out.since (U5.out.trans (hr0.trans kk))); go_simp; first | done | with_reducible rfl)
        try simp only [Act.put, List.setIfInBounds_toArray, List.set_cons_zero, List.set_cons_succ]
        refine' Reg.wpG_take (i := 5) (oi := { dst := some 85, op := Op.slice 23 (Operand.tmp 81) none (some (Operand.tmp 84)) none, type := 23, pos := "law.go:107", after := #[{ on := 1, ground := Ground.data }, { on := 4, ground := Ground.data }], guard := none }) (v := _) [7, 15, 16, 17] [] rfl rfl (by kernel_rfl) (by kernel_rfl) (by kernel_rfl) (by kernel_rfl) (by kernel_rfl) (by kernel_rfl) (by kernel_rfl) (fun _ _ _ h => h) (Or.inl ⟨by rfl, Or.inl ?hy76⟩) ?rest76
        case hy76 => (intro w' kk ss; obtain ⟨x0, x1, x2', x3⟩ := bx4 (B0.out.since (U5.out.trans (hr0.trans kk))); go_simp; first | done | with_reducible rfl)
        try simp only [Act.put, List.setIfInBounds_toArray, List.set_cons_zero, List.set_cons_succ]
        refine' Reg.wpG_take (i := 6) (oi := { dst := some 86, op := Op.move (Operand.tmp 2), type := 5, pos := "law.go:107", after := #[], guard := none }) (v := _) [7, 15, 16, 17] [] rfl rfl (by kernel_rfl) (by kernel_rfl) (by kernel_rfl) (by kernel_rfl) (by kernel_rfl) (by kernel_rfl) (by kernel_rfl) (fun _ _ _ h => h) (Or.inl ⟨by rfl, Or.inl ?hy77⟩) ?rest77
        case hy77 => (intro w' kk ss; obtain ⟨x0, x1, x2', x3⟩ := bx4 (B0.out.since (U5.out.trans (hr0.trans kk))); go_simp; first | done | with_reducible rfl)
        try simp only [Act.put, List.setIfInBounds_toArray, List.set_cons_zero, List.set_cons_succ]
        refine' Reg.wpG_take (i := 8) (oi := { dst := some 88, op := Op.fieldAddr 25 (Operand.tmp 3) 2, type := 0, pos := "law.go:107", after := #[], guard := none }) (v := _) [9, 13, 15, 16, 17] [] rfl rfl (by kernel_rfl) (by kernel_rfl) (by kernel_rfl) (by kernel_rfl) (by kernel_rfl) (by kernel_rfl) (by kernel_rfl) (fun _ _ _ h => h) (Or.inl ⟨by rfl, Or.inl ?hy78⟩) ?rest78
        case hy78 => (intro w' kk ss; obtain ⟨x0, x1, x2', x3⟩ := bx4 (B0.out.since (U5.out.trans (hr0.trans kk))); go_simp; first | done | with_reducible rfl)
        try simp only [Act.put, List.setIfInBounds_toArray, List.set_cons_zero, List.set_cons_succ]
        refine' Reg.wpG_take (i := 9) (oi := { dst := some 89, op := Op.load 23 (Operand.tmp 88), type := 23, pos := "law.go:107", after := #[{ on := 8, ground := Ground.data }], guard := none }) (v := _) [13, 15, 16, 17] [] rfl rfl (by kernel_rfl) (by kernel_rfl) (by kernel_rfl) (by kernel_rfl) (by kernel_rfl) (by kernel_rfl) (by kernel_rfl) (fun _ _ _ h => h) (Or.inl ⟨by rfl, Or.inl ?hy79⟩) ?rest79
        case hy79 => (intro w' kk ss; obtain ⟨x0, x1, x2', x3⟩ := bx4 (B0.out.since (U5.out.trans (hr0.trans kk))); go_simp; first | done | with_reducible rfl)
        try simp only [Act.put, List.setIfInBounds_toArray, List.set_cons_zero, List.set_cons_succ]
        refine' Reg.wpG_take (i := 10) (oi := { dst := some 90, op := Op.fieldAddr 25 (Operand.tmp 3) 1, type := 0, pos := "law.go:107", after := #[], guard := none }) (v := _) [11, 12, 13, 15, 16, 17] [] rfl rfl (by kernel_rfl) (by kernel_rfl) (by kernel_rfl) (by kernel_rfl) (by kernel_rfl) (by kernel_rfl) (by kernel_rfl) (fun _ _ _ h => h) (Or.inl ⟨by rfl, Or.inl ?hy80⟩) ?rest80
        case hy80 => (intro w' kk ss; obtain ⟨x0, x1, x2', x3⟩ := bx4 (B0.out.since (U5.out.trans (hr0.trans kk))); go_simp; first | done | with_reducible rfl)
        try simp only [Act.put, List.setIfInBounds_toArray, List.set_cons_zero, List.set_cons_succ]
        refine' Reg.wpG_take (i := 11) (oi := { dst := some 91, op := Op.load 22 (Operand.tmp 90), type := 22, pos := "law.go:107", after := #[{ on := 10, ground := Ground.data }], guard := none }) (v := _) [12, 13, 15, 16, 17] [] rfl rfl (by kernel_rfl) (by kernel_rfl) (by kernel_rfl) (by kernel_rfl) (by kernel_rfl) (by kernel_rfl) (by kernel_rfl) (fun _ _ _ h => h) (Or.inl ⟨by rfl, Or.inl ?hy81⟩) ?rest81
        case hy81 => (intro w' kk ss; obtain ⟨x0, x1, x2', x3⟩ := bx4 (B0.out.since (U5.out.trans (hr0.trans kk))); go_simp; first | done | with_reducible rfl)
        try simp only [Act.put, List.setIfInBounds_toArray, List.set_cons_zero, List.set_cons_succ]
        refine' Reg.wpG_take (i := 12) (oi := { dst := some 92, op := Op.call { callee := Callee.builtin Builtin.len, args := #[Operand.tmp 91], argTypes := #[22] }, type := 3, pos := "law.go:107", after := #[{ on := 11, ground := Ground.data }], guard := none }) (v := _) [13, 15, 16, 17] [] rfl rfl (by kernel_rfl) (by kernel_rfl) (by kernel_rfl) (by kernel_rfl) (by kernel_rfl) (by kernel_rfl) (by kernel_rfl) (fun _ _ _ h => h) (Or.inl ⟨by rfl, Or.inl ?hy82⟩) ?rest82
        case hy82 => (intro w' kk ss; obtain ⟨x0, x1, x2', x3⟩ := bx4 (B0.out.since (U5.out.trans (hr0.trans kk))); go_simp; first | done | with_reducible rfl)
        try simp only [Act.put, List.setIfInBounds_toArray, List.set_cons_zero, List.set_cons_succ]
        refine' Reg.wpG_take (i := 13) (oi := { dst := some 93, op := Op.slice 23 (Operand.tmp 89) (some (Operand.tmp 92)) none none, type := 23, pos := "law.go:107", after := #[{ on := 9, ground := Ground.data }, { on := 12, ground := Ground.data }], guard := none }) (v := _) [15, 16, 17] [] rfl rfl (by kernel_rfl) (by kernel_rfl) (by kernel_rfl) (by kernel_rfl) (by kernel_rfl) (by kernel_rfl) (by kernel_rfl) (fun _ _ _ h => h) (Or.inl ⟨by rfl, Or.inl ?hy83⟩) ?rest83
        case hy83 => (intro w' kk ss; obtain ⟨x0, x1, x2', x3⟩ := bx4 (B0.out.since (U5.out.trans (hr0.trans kk))); go_simp; first | done | with_reducible rfl)
        try simp only [Act.put, List.setIfInBounds_toArray, List.set_cons_zero, List.set_cons_succ]
        refine' Reg.wpG_take (i := 14) (oi := { dst := some 94, op := Op.move (Operand.tmp 2), type := 5, pos := "law.go:107", after := #[], guard := none }) (v := _) [15, 16, 17] [] rfl rfl (by kernel_rfl) (by kernel_rfl) (by kernel_rfl) (by kernel_rfl) (by kernel_rfl) (by kernel_rfl) (by kernel_rfl) (fun _ _ _ h => h) (Or.inl ⟨by rfl, Or.inl ?hy84⟩) ?rest84
        case hy84 => (intro w' kk ss; obtain ⟨x0, x1, x2', x3⟩ := bx4 (B0.out.since (U5.out.trans (hr0.trans kk))); go_simp; first | done | with_reducible rfl)
        try simp only [Act.put, List.setIfInBounds_toArray, List.set_cons_zero, List.set_cons_succ]
        refine Reg.wpG_ready (rs := [7]) (by kernel_rfl) (by simp) (fun wq70001 k70001' sq70001 => ?_)
        have hr0 := hr0.trans k70001'
        refine Reg.AllG.first (o := { dst := some 87, op := Op.call { callee := Callee.value (Operand.func 23), args := #[Operand.tmp 85, Operand.tmp 86], argTypes := #[23, 5] }, type := 23, pos := "law.go:107", after := #[{ on := 5, ground := Ground.data }, { on := 6, ground := Ground.data }], guard := none }) rfl (by rfl) (fun K hK => ?_) Reg.AllG.nil
        go_simp
        (with_reducible refine ((TL1.out wq70001 hr0)).mono ?_)
        rintro e y70001 ⟨B1, c1, rfl, q1, hx⟩
        refine hK.out _ _ trivial hx ?_
        clear hK K
        have hr0 := hr0.trans hx
        clear hx
        try simp only [Act.put, List.setIfInBounds_toArray, List.set_cons_zero, List.set_cons_succ]
        refine Reg.wpG_ready (rs := [15]) (by kernel_rfl) (by simp) (fun wq70002 k70002' sq70002 => ?_)
        have hr0 := hr0.trans k70002'
        have q1 := q1.since k70002'
        refine Reg.AllG.first (o := { dst := some 95, op := Op.call { callee := Callee.value (Operand.func 23), args := #[Operand.tmp 93, Operand.tmp 94], argTypes := #[23, 5] }, type := 23, pos := "law.go:107", after := #[{ on := 13, ground := Ground.data }, { on := 14, ground := Ground.data }, { on := 7, ground := Ground.chain }], guard := none }) rfl (by rfl) (fun K hK => ?_) Reg.AllG.nil
        go_simp
        (with_reducible refine ((TL2.out wq70002 hr0)).mono ?_)
        rintro e y70002 ⟨B2, c2, rfl, q2, hx⟩
        refine hK.out _ _ trivial hx ?_
        clear hK K
        have hr0 := hr0.trans hx
        have q1 := q1.since hx
        clear hx
        try simp only [Act.put, List.setIfInBounds_toArray, List.set_cons_zero, List.set_cons_succ]
        refine' Reg.wpG_take (i := 16) (oi := { dst := some 11, op := Op.assign (Operand.tmp 87), type := 23, pos := "law.go:107", after := #[{ on := 7, ground := Ground.data }, { on := 15, ground := Ground.chain }, { on := 0, ground := Ground.phase }, { on := 1, ground := Ground.phase }, { on := 2, ground := Ground.phase }, { on := 3, ground := Ground.phase }, { on := 4, ground := Ground.phase }, { on := 5, ground := Ground.phase }, { on := 6, ground := Ground.phase }, { on := 7, ground := Ground.phase }, { on := 8, ground := Ground.textOnly Departure.lateStores }, { on := 9, ground := Ground.textOnly Departure.lateStores }, { on := 10, ground := Ground.textOnly Departure.lateStores }, { on := 11, ground := Ground.textOnly Departure.lateStores }, { on := 12, ground := Ground.textOnly Departure.lateStoresUnsure }, { on := 13, ground := Ground.textOnly Departure.lateStoresUnsure }, { on := 14, ground := Ground.textOnly Departure.lateStores }, { on := 15, ground := Ground.textOnly Departure.lateStoresUnsure }], guard := none }) (v := _) [17] [] rfl rfl (by kernel_rfl) (by kernel_rfl) (by kernel_rfl) (by kernel_rfl) (by kernel_rfl) (by kernel_rfl) (by kernel_rfl) (fun _ _ _ h => h) (Or.inl ⟨by rfl, Or.inl ?hy85⟩) ?rest85
        case hy85 => (intro w' kk ss; obtain ⟨x0, x1, x2', x3⟩ := bx4 (B0.out.since (U5.out.trans (hr0.trans kk))); go_simp; first | done | with_reducible rfl)
        try simp only [Act.put, List.setIfInBounds_toArray, List.set_cons_zero, List.set_cons_succ]
        refine' Reg.wpG_take (i := 17) (oi := { dst := some 12, op := Op.assign (Operand.tmp 95), type := 23, pos := "law.go:107", after := #[{ on := 15, ground := Ground.data }, { on := 16, ground := Ground.chain }, { on := 0, ground := Ground.phase }, { on := 1, ground := Ground.phase }, { on := 2, ground := Ground.phase }, { on := 3, ground := Ground.phase }, { on := 4, ground := Ground.phase }, { on := 5, ground := Ground.phase }, { on := 6, ground := Ground.phase }, { on := 7, ground := Ground.phase }, { on := 8, ground := Ground.phase }, { on := 9, ground := Ground.phase }, { on := 10, ground := Ground.phase }, { on := 11, ground := Ground.phase }, { on := 12, ground := Ground.phase }, { on := 13, ground := Ground.phase }, { on := 14, ground := Ground.phase }, { on := 15, ground := Ground.phase }, { on := 16, ground := Ground.phase }], guard := none }) (v := _) [] [] rfl rfl (by kernel_rfl) (by kernel_rfl) (by kernel_rfl) (by kernel_rfl) (by kernel_rfl) (by kernel_rfl) (by kernel_rfl) (fun _ _ _ h => h) (Or.inl ⟨by rfl, Or.inl ?hy86⟩) ?rest86
        case hy86 => (intro w' kk ss; obtain ⟨x0, x1, x2', x3⟩ := bx4 (B0.out.since (U5.out.trans (hr0.trans kk))); go_simp; first | done | with_reducible rfl)
        try simp only [Act.put, List.setIfInBounds_toArray, List.set_cons_zero, List.set_cons_succ]
        refine Reg.wpG_done (by kernel_rfl) (fun we ke se => ?_) _
        refine NoPanic.normal ?_
        have hr0 := hr0.trans ke
        have q1 := q1.since ke
        have q2 := q2.since ke
        clear ke
        obtain ⟨bb1, hb1, q1⟩ := q1
        obtain ⟨bb2, hb2, q2⟩ := q2
        have Q1 := Lib.hid q1
        have Q2 := Lib.hid q2
        have HB1 := Lib.hid hb1
        clear q1 q2 hb1 hb2
        have GG := Lib.hid (show w2.heap.size < bb1.heap.size ∧ w.heap.size < bb1.heap.size by have := HB1.out.size; have := K5.out.size; have h5 := D5.out; have := T2.out.size; have := U2.out.size; have hlt5 := HL5.out; simp at *; omega)
        have Be := Lib.hid (B0.out.since (U5.out.trans hr0))
        have De := Lib.hid (D5.out.since hr0)
        obtain ⟨b0, b1, b2, b3⟩ := bx4 Be.out
        obtain ⟨d0, d1, d2, d3⟩ := bx4 De.out
        obtain ⟨f0, f1, f2, f3⟩ := bx4' De.out
        have HSUM := Lib.hid (show (rot (z0.a.take n0) q).length + (rot (z0.a.drop n0) q).length = m0 by rw [rot_len, rot_len, List.length_take, List.length_drop]; have := HM.out; omega)
        have HLL := Lib.hid (show (rot (z0.a.take n0) q).length + (rot (z0.a.drop n0) q).length ≤ 1000000 by rw [HSUM.out]; omega)
        go_wp2_with (at_builtin; refine wpList_cat Q1.out Q2.out HLL.out (by rfl) _ _ rfl rfl rfl ?_; rw [HSUM.out]; intro A c8 w8 h8 k8; have H8 := Lib.hid h8; have B8 := Lib.hid (Q1.out.bx Be.out GG.out.2 k8); have D8 := Lib.hid (Q1.out.bx De.out GG.out.1 k8); clear h8 k8; obtain ⟨b0, b1, b2, b3⟩ := bx4 B8.out; obtain ⟨d0, d1, d2, d3⟩ := bx4 D8.out; obtain ⟨f0, f1, f2, f3⟩ := bx4' D8.out)
        obtain ⟨w9, hw9⟩ : ∃ w9, w9 = w8.setCell ⟨w2.heap.size, 2, none⟩ (.slice A m0 c8) := ⟨_, rfl⟩
        rw [← hw9]
        have K8 := Lib.hid (HB1.out.trans H8.out.s)
        have K9 := Lib.hid (show Since w2 w9 by rw [hw9]; exact (K5.out.trans K8.out).set (p := ⟨w2.heap.size, 2, none⟩) (Nat.le_refl _) _)
        have D9 := Lib.hid (show Bx w9 w2.heap.size #[.int .i64 19, .slice B n0 bc, .slice A m0 c8, .int .i64 e0] 25 by rw [hw9]; exact bxset D8.out 2 (.slice A m0 c8) rfl)
        have SX9 := Lib.hid (show Sl 1 QI w9 (.slice B n0 bc) (rot z0.x q) by rw [hw9]; exact ((SX.out.since K8.out).set (a := ⟨w2.heap.size, 2, none⟩) HLT.out _).sl)
        have SA9 := Lib.hid (show Sl 1 QI w9 (.slice A m0 c8) (rot (z0.a.take n0) q ++ rot (z0.a.drop n0) q) by rw [hw9]; exact ((Rz.of H8.out).set (a := ⟨w2.heap.size, 2, none⟩) GG.out.1 _).sl)
        have T9 := Lib.hid (T2.out.trans K9.out)
        have U9 := Lib.hid (U2.out.trans K9.out)
        have HRA := Lib.hid (rot_rotA z0 HN.out H2N.out q)
        have CD := Lib.hid (show ConAt w9 (.agg #[.int .i64 19, .slice B n0 bc, .slice A m0 c8, .int .i64 e0]) ⟨z0.k, rotL (q % z0.x.length) z0.x, rotA (q % z0.x.length) z0, z0.c⟩ from ⟨.slice B n0 bc, .slice A m0 c8, by rw [← HK0.out, ← HE0.out], by rw [← rot_eq]; exact SX9.out, by rw [← HRA.out]; exact SA9.out⟩)
        have HD := Lib.hid (fun W k => holds_at CD.out (HA.out.since stI T9.out) (by simp only; rw [(rotA_perm _ _).length_eq]; have := HF2.out; omega) (by have := HF3.out; omega) ((turned_same _ _ (by have := HK0.out; omega) (rotA_perm _ _) (fun h => ⟨rfl, H2N.out⟩)).trans HR.out) W k)
        clear hr0 hw9 b0 b1 b2 b3 d0 d1 d2 d3 f0 f1 f2 f3 Be De B8 D8 H8 Q1 Q2
        have hr0 : Since w9 w9.drew := Since.drew (Since.refl w9)
        refine wp_region_noPanic ?_
        refine Reg.wp_region_G (S := fun _ => True) (fun j => [].contains j) (by kernel_rfl) trivial ?_
        refine' Reg.wpG_take (i := 0) (oi := { dst := some 100, op := Op.load 25 (Operand.tmp 7), type := 25, pos := "law.go:112", after := #[], guard := none }) (v := _) [2, 5, 6, 7] [] rfl rfl (by kernel_rfl) (by kernel_rfl) (by kernel_rfl) (by kernel_rfl) (by kernel_rfl) (by kernel_rfl) (by kernel_rfl) (fun _ _ _ h => h) (Or.inl ⟨by rfl, Or.inl ?hy88⟩) ?rest88
        case hy88 => (intro w' kk ss; obtain ⟨x0, x1, x2', x3⟩ := bx4 (B0.out.since (U9.out.trans (hr0.trans kk))); obtain ⟨y0, y1, y2', y3⟩ := bx4 (D9.out.since (hr0.trans kk)); go_simp; first | done | with_reducible rfl)
        try simp only [Act.put, List.setIfInBounds_toArray, List.set_cons_zero, List.set_cons_succ]
        refine' Reg.wpG_take (i := 1) (oi := { dst := some 101, op := Op.move (Operand.tmp 1), type := 23, pos := "law.go:112", after := #[], guard := none }) (v := _) [2, 5, 6, 7] [] rfl rfl (by kernel_rfl) (by kernel_rfl) (by kernel_rfl) (by kernel_rfl) (by kernel_rfl) (by kernel_rfl) (by kernel_rfl) (fun _ _ _ h => h) (Or.inl ⟨by rfl, Or.inl ?hy89⟩) ?rest89
        case hy89 => (intro w' kk ss; obtain ⟨x0, x1, x2', x3⟩ := bx4 (B0.out.since (U9.out.trans (hr0.trans kk))); obtain ⟨y0, y1, y2', y3⟩ := bx4 (D9.out.since (hr0.trans kk)); go_simp; first | done | with_reducible rfl)
        try simp only [Act.put, List.setIfInBounds_toArray, List.set_cons_zero, List.set_cons_succ]
        refine Reg.wpG_take (i := 2) (oi := { dst := some 102, op := Op.call { callee := Callee.value (Operand.func 14), args := #[Operand.tmp 100, Operand.tmp 101], argTypes := #[25, 23] }, type := 4, pos := "law.go:112", after := #[{ on := 0, ground := Ground.data }, { on := 1, ground := Ground.data }], guard := none }) (v := .bool R) [5, 6, 7] [] rfl rfl (by kernel_rfl) (by kernel_rfl) (by kernel_rfl) (by kernel_rfl) (by kernel_rfl) (by kernel_rfl) (by kernel_rfl) (fun _ _ _ h => h) (Or.inl ⟨by rfl, Or.inr ⟨14, #[.agg #[.int .i64 19, .slice B n0 bc, .slice A m0 c8, .int .i64 e0], .slice a1 len1 cap1], fun w' kk ss => ⟨?_, ?_⟩⟩⟩) ?_
        · (try dsimp only at ss); go_simp
        · exact HD.out w' (hr0.trans kk)
        try simp only [Act.put, List.setIfInBounds_toArray, List.set_cons_zero, List.set_cons_succ]
        refine' Reg.wpG_take (i := 3) (oi := { dst := some 103, op := Op.load 25 (Operand.tmp 3), type := 25, pos := "law.go:112", after := #[], guard := none }) (v := _) [5, 6, 7] [] rfl rfl (by kernel_rfl) (by kernel_rfl) (by kernel_rfl) (by kernel_rfl) (by kernel_rfl) (by kernel_rfl) (by kernel_rfl) (fun _ _ _ h => h) (Or.inl ⟨by rfl, Or.inl ?hy90⟩) ?rest90
        case hy90 => (intro w' kk ss; obtain ⟨x0, x1, x2', x3⟩ := bx4 (B0.out.since (U9.out.trans (hr0.trans kk))); obtain ⟨y0, y1, y2', y3⟩ := bx4 (D9.out.since (hr0.trans kk)); go_simp; first | done | with_reducible rfl)
        try simp only [Act.put, List.setIfInBounds_toArray, List.set_cons_zero, List.set_cons_succ]
        refine' Reg.wpG_take (i := 4) (oi := { dst := some 104, op := Op.move (Operand.tmp 1), type := 23, pos := "law.go:112", after := #[], guard := none }) (v := _) [5, 6, 7] [] rfl rfl (by kernel_rfl) (by kernel_rfl) (by kernel_rfl) (by kernel_rfl) (by kernel_rfl) (by kernel_rfl) (by kernel_rfl) (fun _ _ _ h => h) (Or.inl ⟨by rfl, Or.inl ?hy91⟩) ?rest91
        case hy91 => (intro w' kk ss; obtain ⟨x0, x1, x2', x3⟩ := bx4 (B0.out.since (U9.out.trans (hr0.trans kk))); obtain ⟨y0, y1, y2', y3⟩ := bx4 (D9.out.since (hr0.trans kk)); go_simp; first | done | with_reducible rfl)
        try simp only [Act.put, List.setIfInBounds_toArray, List.set_cons_zero, List.set_cons_succ]
        refine Reg.wpG_take (i := 5) (oi := { dst := some 105, op := Op.call { callee := Callee.value (Operand.func 14), args := #[Operand.tmp 103, Operand.tmp 104], argTypes := #[25, 23] }, type := 4, pos := "law.go:112", after := #[{ on := 3, ground := Ground.data }, { on := 4, ground := Ground.data }, { on := 2, ground := Ground.chain }], guard := none }) (v := .bool R) [6, 7] [] rfl rfl (by kernel_rfl) (by kernel_rfl) (by kernel_rfl) (by kernel_rfl) (by kernel_rfl) (by kernel_rfl) (by kernel_rfl) (fun _ _ _ h => h) (Or.inl ⟨by rfl, Or.inr ⟨14, #[.agg #[.int .i64 19, .slice X0 n0 xc0, .slice (some ⟨gy, oy, none⟩) m0 yc0, .int .i64 e0], .slice a1 len1 cap1], fun w' kk ss => ⟨?_, ?_⟩⟩⟩) ?_
        · (try dsimp only at ss); go_simp
        · exact HH.out w' (T9.out.trans (hr0.trans kk))
        try simp only [Act.put, List.setIfInBounds_toArray, List.set_cons_zero, List.set_cons_succ]
        refine' Reg.wpG_take (i := 6) (oi := { dst := some 106, op := Op.binOp BinOp.eql 4 (Operand.tmp 102) (Operand.tmp 105) 4, type := 4, pos := "law.go:112", after := #[{ on := 2, ground := Ground.data }, { on := 5, ground := Ground.data }], guard := none }) (v := _) [7] [] rfl rfl (by kernel_rfl) (by kernel_rfl) (by kernel_rfl) (by kernel_rfl) (by kernel_rfl) (by kernel_rfl) (by kernel_rfl) (fun _ _ _ h => h) (Or.inl ⟨by rfl, Or.inl ?hy92⟩) ?rest92
        case hy92 => (intro w' kk ss; obtain ⟨x0, x1, x2', x3⟩ := bx4 (B0.out.since (U9.out.trans (hr0.trans kk))); obtain ⟨y0, y1, y2', y3⟩ := bx4 (D9.out.since (hr0.trans kk)); go_simp; first | done | with_reducible rfl)
        try simp only [Act.put, List.setIfInBounds_toArray, List.set_cons_zero, List.set_cons_succ]
        refine' Reg.wpG_take (i := 7) (oi := { dst := some 6, op := Op.assign (Operand.tmp 106), type := 4, pos := "law.go:112", after := #[{ on := 6, ground := Ground.data }, { on := 5, ground := Ground.chain }, { on := 0, ground := Ground.phase }, { on := 1, ground := Ground.phase }, { on := 2, ground := Ground.phase }, { on := 3, ground := Ground.phase }, { on := 4, ground := Ground.phase }, { on := 5, ground := Ground.phase }, { on := 6, ground := Ground.phase }], guard := none }) (v := _) [] [] rfl rfl (by kernel_rfl) (by kernel_rfl) (by kernel_rfl) (by kernel_rfl) (by kernel_rfl) (by kernel_rfl) (by kernel_rfl) (fun _ _ _ h => h) (Or.inl ⟨by rfl, Or.inl ?hy93⟩) ?rest93
        case hy93 => (intro w' kk ss; obtain ⟨x0, x1, x2', x3⟩ := bx4 (B0.out.since (U9.out.trans (hr0.trans kk))); obtain ⟨y0, y1, y2', y3⟩ := bx4 (D9.out.since (hr0.trans kk)); go_simp; first | done | with_reducible rfl)
        try simp only [Act.put, List.setIfInBounds_toArray, List.set_cons_zero, List.set_cons_succ]
        refine Reg.wpG_done (by kernel_rfl) (fun we ke se => ?_) _
        refine NoPanic.normal ?_
        have hr0 := hr0.trans ke
        clear ke
        go_wp2
        go_ret
        exact RetT.of (by simp) (T9.out.trans hr0)

set_option maxRecDepth 100000 in
theorem lifted (os : Os) (started : os.Started) (H : Type) (enc : TypeId × Value → H) :
    ReturnsInHanded {} Try.checked os 6 .any (Rows.senseTurnedSpec.pre6 enc Try.prog Try.f6 Rows.senseTurnedRow.domain false) (Rows.senseTurnedSpec.post enc Try.prog Try.f6 false true false false) := by
  refine returnsInHanded_of_change (C := Try.checked) own started (by kernel_rfl) Try.func6
    (ChangeSpec.witness6 (enc := enc) (C := Try.checked) false ⟨#[], #[.agg #[.int .i64 0, .slice none 0 0, .slice none 0 0, .int .i64 0], .slice none 0 0, .int .u8 0], []⟩ 8 (by kernel_rfl) (by kernel_rfl) (by kernel_rfl) (by kernel_rfl)) ?_
  intro W base args ds gs before hval0 hW hcnd _
  have hval : ∀ (j : Nat) t v, Try.f6.params[j]? = some t → args[j]? = some v → Value.okWide Try.prog W .any base t v := hval0
  have hW' := hW
  obtain ⟨p, q, hA0, hV, rfl, hfz, hnd⟩ := hW
  have hA : DataW.TrodAll enc Try.prog W 0 (fun _ => true) true Try.f6.params.toList args.toList ds p := hA0
  rw [Try.params6] at hA hval
  obtain ⟨v0, vs0, d0, ds0, p0, q0, hargs, rfl, rfl, h0, r0⟩ := trodAll_cons hA
  obtain ⟨v1, vs1, d1, ds1, p1, q1, rfl, rfl, rfl, h1, r1⟩ := trodAll_cons r0
  obtain ⟨v2, vs2, d2, ds2, p2, q2, rfl, rfl, rfl, h2, r2⟩ := trodAll_cons r1
  obtain ⟨rfl, rfl, rfl⟩ := trodAll_nil r2
  obtain rfl : args = #[v0, v1, v2] := by cases args; simp_all
  obtain ⟨rfl, rfl⟩ := trodVars_none hV
  obtain ⟨k0k, X0, n0, xc0, Y0, m0, yc0, e0, rfl, z0, w0⟩ := Go.Proofs.Ytfcinefmnigacaa.Sn.con_in ⟨Try.underlying25, ⟨rfl, rfl, rfl, rfl⟩, ⟨by kernel_rfl, by kernel_rfl, by kernel_rfl, by kernel_rfl⟩, Try.underlying3, Try.underlying22, Try.underlying23, Try.underlying2, Try.underlying3, by kernel_rfl, Try.underlying2, by kernel_rfl⟩ (by kernel_rfl) (hval 0 25 v0 rfl rfl) h0
  have k0 := h0
  have lt0 : ∀ x ∈ p0, x.block < W.heap.size := by obtain ⟨m, hm⟩ := k0; exact DataW.trod_lt m _ _ _ hm
  obtain ⟨a1, len1, cap1, rfl⟩ := okWide_slice Try.underlying23 (hval 1 23 v1 rfl rfl)
  have k1 := h1
  have lt1 : ∀ x ∈ p1, x.block < W.heap.size := by obtain ⟨m, hm⟩ := k1; exact DataW.trod_lt m _ _ _ hm
  obtain ⟨z1, w1⟩ : ∃ zs, Go.Proofs.Ytfcinefmnigacaa.Sn.IntsIn W a1 len1 cap1 zs := by
    obtain ⟨fuel, hf⟩ := h1
    exact Go.Proofs.Ytfcinefmnigacaa.Sn.ints_in Try.underlying23 Try.underlying2 (by kernel_rfl) hf
  obtain ⟨a2, rfl, rfl, rfl, w2⟩ := open_int Try.underlying5 (hval 2 5 v2 rfl rfl) h2
  clear hA0 hval0
  refine (walk k0k X0 n0 xc0 Y0 m0 yc0 e0 z0 a1 len1 cap1 z1 a2 W w0 w1 w2).mono fun e W' ⟨he, bel⟩ => ?_
  subst he
  exact ⟨_, rfl, _, _, _, [], _, [], hW', trodAll_mk1 (shut_bool Try.underlying4 _), (trodAll_cons_mk (Below.trod laidOut (by kernel_rfl) (of_decide_eq_true (by kernel_rfl)) k0 bel lt0) (trodAll_cons_mk (Below.trod laidOut (by kernel_rfl) (of_decide_eq_true (by kernel_rfl)) k1 bel lt1) (trodAll_cons_mk (shut_int Try.underlying5 w2) trodAll_mk0))), rfl, bel.frame _, fun h => by cases h⟩

theorem over : Rows.senseTurnedRow.holds Try.pinned (OpenSpec.ofChange Rows.senseTurnedSpec) :=
  OpenClaim.holds_of_wide 6 Try.f6 rfl rfl rfl rfl rfl rfl rfl ⟨rfl, rfl, rfl, rfl, rfl⟩ rfl rfl rfl rfl rfl (by kernel_rfl) Try.func6 (by kernel_rfl)
    (of_decide_eq_true (by kernel_rfl)) (by unfold Func.isWrapper; first | (rw [if_pos (by decide +kernel)]; kernel_rfl) | (rw [if_neg (by decide +kernel)]; exact ⟨rfl, rfl⟩))
    (fun os started H enc _ => lifted os started H enc)

/-- THE STATEMENT -/
theorem proved : Rows.SenseTurnedSaid := over
#print axioms proved
end Go.Proofs.Ytfcinefmnigacaa.senseTurned
