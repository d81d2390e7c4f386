/-
  For every string s: the law LexPlaces returns true (each token's bytes stand in the text where it says, in order, and what is left between them is blank; an error's place lies within the text). No condition.
-/
import Derived.Test.YtbkkalmdjcpgoaaDoorRows
import Derived.Test.YtbkkalmdjcpgoaaDoorCards
import Derived.Test.YtbkkalmdjcpgoaaDoorTie
import Derived.LaidMore
import Derived.Lay
import Derived.SevenTiedAt
import Derived.WalkKit
import Derived.ProofKit
import Derived.OpenShut
import Derived.ShutString
import Derived.Test.YtbkkalmdjcpgoaaDoorVd
import Derived.Test.YtbkkalmdjcpgoaaDoorReg
import Derived.Deep.DeepCutAuto
namespace Go.Proofs.YtbkkalmdjcpgoaaDoor.lexPlaces
open Go.ChangeShapes Go.WideShapes Go.ChangeAt Go.RowKit
open Go.ChangeMaps (open_string shut_string)
open Go.Proofs.YtbkkalmdjcpgoaaDoor.Dig Go.Proofs.YtbkkalmdjcpgoaaDoor.Lx Go.Proofs.YtbkkalmdjcpgoaaDoor.Tk Go.Proofs.YtbkkalmdjcpgoaaDoor.Law05
open Go.Proofs.YtbkkalmdjcpgoaaDoor.Lex (ErrIn)
set_option linter.unusedVariables false

theorem own : ownKnob Tryd.prog.godebug = none := by kernel_rfl

set_option maxRecDepth 100000 in
set_option maxHeartbeats 8000000 in
theorem walk (a0 : ByteArray) (w0 : a0.size ≤ maxLen) (w : World) (he : Go.Proofs.YtbkkalmdjcpgoaaDoor.Lex.ErrIn w) :
    Calls Tryd.prog 6 #[.string a0] w fun e w' => e = .returned (.bool true) ∧ Since w w' := by
  unfold maxLen at w0
  have EI := Lib.hid he
  have AL := Lib.hid (alive w he)
  clear he
  by_cases hbig : 9000 < a0.size
  · have hz : decide ((9000 : Int) < (a0.size : Int)) = true := by rw [decide_eq_true_iff]; omega
    clear w0
    go_enter Tryd.func6, Tryd.ntmps6
    go_wp2_with (go_at_call 8; (with_reducible refine AL.out.mono ?_); rintro e w1 ⟨rfl, h1⟩)
    go_ret
    exact ⟨rfl, h1⟩
  have hz : decide ((9000 : Int) < (a0.size : Int)) = false := by rw [decide_eq_false_iff_not]; omega
  obtain ⟨⟨o, p, er⟩, hr⟩ : ∃ r, r = splitD (L a0) := ⟨_, rfl⟩
  have hc := places_cases hr.symm
  rcases hc with ⟨h0, rfl, hp⟩ | ⟨rfl, hsz, hn4, hpl⟩
  · have S1 := Lib.hid (fun W (h : ErrIn W) => theirs_split a0 (by omega) hr.symm (rfl : ([] : List Lx.Tok).length = 0) W h)
    have hne : (er != 0) = true := by rw [bne_iff_ne]; exact h0
    have hlt : decide ((p : Int) < (a0.size : Int)) = true := by rw [decide_eq_true_iff]; omega
    have hlt2 : p < a0.size := hp
    clear hr h0 w0
    go_enter Tryd.func6, Tryd.ntmps6
    go_wp2_with (first
      | (go_at_call 8; (with_reducible refine AL.out.mono ?_); rintro e w1 ⟨rfl, h1⟩)
      | (go_at_call 9; (with_reducible refine (S1.out _ (EI.out.since h1)).mono ?_); rintro e w2 ⟨A, c, rfl, t1, h2⟩))
    go_ret
    exact ⟨rfl, h1.trans h2⟩
  obtain ⟨n, hn⟩ : ∃ n, o.length = n := ⟨_, rfl⟩
  have S1 := Lib.hid (fun W (h : ErrIn W) => theirs_split a0 (by omega) hr.symm hn W h)
  have HN := Lib.hid hn
  have HP := Lib.hid hpl
  have hn5 : n ≤ 4096 := by omega
  clear hr hn hpl hn4 w0
  go_enter Tryd.func6, Tryd.ntmps6
  go_wp2_with (first
    | (go_at_call 8; (with_reducible refine AL.out.mono ?_); rintro e w1 ⟨rfl, h1⟩)
    | (go_at_call 9; (with_reducible refine (S1.out _ (EI.out.since h1)).mono ?_); rintro e w2 ⟨A, c, rfl, t1, h2⟩))
  have h12 := h1.trans h2
  have T1 := Lib.hid t1
  clear t1
  go_loopw [6, 41] (fun last i wr => ∃ k q : Nat, k ≤ n ∧ i = .int .i64 (k : Int) ∧ last = .int .i64 (q : Int) ∧ Hid (Places (L a0) q (o.drop k)) ∧ Since w2 wr) (fun _ i _ => n - (intOf i).toNat)
  case atStart => exact ⟨0, 0, Nat.zero_le _, rfl, rfl, HP.out, Since.refl _⟩
  case round =>
    obtain ⟨k, q, hk, rfl, rfl, HQ, hw⟩ := hrel
    by_cases hlt : k < n
    · obtain ⟨x, hx, hx2⟩ := drop_tok (os := o) (k := k) (by have := HN.out; omega)
      have hq := HQ.out
      rw [hx] at hq
      obtain ⟨z1, z2, z3, z4, z5, z6, z7, z8, z9⟩ := hq
      obtain ⟨b, oo, rfl, g1, g2, g3, g4⟩ := (T1.out.since hw).el (i := k) (by rw [List.length_map]; have := HN.out; omega)
      rw [hx2] at g1 g2 g3 g4
      have HX := Lib.hid z9
      have z2' : x.at_ + x.txt.length ≤ a0.size := by rw [L_len] at z2; exact z2
      obtain ⟨T, hT, hTs, hTe, hTn⟩ := tok_part (s := a0) (i := x.at_) (t := x.txt) z2' z4 z3
      obtain ⟨K, hK⟩ : ∃ K, K = x.kind := ⟨_, rfl⟩
      obtain ⟨at_, hat⟩ : ∃ a, a = x.at_ := ⟨_, rfl⟩
      obtain ⟨V, hV⟩ : ∃ v, v = x.val := ⟨_, rfl⟩
      obtain ⟨tn, htn⟩ : ∃ n, n = x.txt.length := ⟨_, rfl⟩
      change wr.cell? ⟨b, oo + k * 4, none⟩ = some (.int .i64 (x.kind : Int)) at g1
      change wr.cell? ⟨b, oo + k * 4 + 1, none⟩ = some (.string ⟨x.txt.toArray⟩) at g2
      change wr.cell? ⟨b, oo + k * 4 + 2, none⟩ = some (.int .i64 x.val) at g3
      change wr.cell? ⟨b, oo + k * 4 + 3, none⟩ = some (.int .i64 (x.at_ : Int)) at g4
      rw [← hT] at g2
      rw [← hK] at g1 z6 z7 z8
      rw [← hV] at g3 z8
      rw [← hat] at g4 z1 z2' z5 HX hTe
      rw [← htn] at z2' HX hTs hTe
      clear hT hK hat hV htn z2 z3 z4 z9 hx hx2
      have BL := Lib.hid (fun W => blank_yes (a0.extract q at_) W (by rw [ByteArray.size_extract]; omega) (by rw [L_extract _ _ _ z1]; exact z5))
      clear z5
      have d1 : decide (at_ < q) = false := by rw [decide_eq_false_iff_not]; omega
      have d1' : decide ((at_ : Int) < (q : Int)) = false := by rw [decide_eq_false_iff_not]; omega
      have d2 : IntKind.i64.wrap ((at_ : Int) + (tn : Int)) = (at_ : Int) + (tn : Int) := IntWalk.i64_in _ (by omega)
      have d3 : decide ((a0.size : Int) < (at_ : Int) + (tn : Int)) = false := by rw [decide_eq_false_iff_not]; omega
      have d4 : (0 : Int) ≤ (at_ : Int) + (tn : Int) := by omega
      have d5 : ((at_ : Int) + (tn : Int)).toNat = at_ + tn := by omega
      have d6 : (at_ : Int) ≤ (at_ : Int) + (tn : Int) := by omega
      have d7 : (at_ : Int) + (tn : Int) ≤ (a0.size : Int) := by omega
      have d7' : at_ + tn ≤ a0.size := z2'
      have d8 : at_ ≤ at_ + tn := by omega
      have d9 : at_ ≤ a0.size := by omega
      have d10 : decide ((K : Int) < 1) = false := by rw [decide_eq_false_iff_not]; omega
      have d11 : decide ((3 : Int) < (K : Int)) = false := by rw [decide_eq_false_iff_not]; omega
      have e1 : T.toList.isEmpty = false := by rw [List.isEmpty_eq_false_iff]; exact hTn
      have e2 : (T.toList == []) = false := by rw [beq_eq_false_iff_ne]; exact hTn
      go_upto_region 12 with fail
      obtain ⟨W0, hW0⟩ : ∃ W0, W0 = wr.alloc (.cells #[.int .i64 (K : Int), .string T, .int .i64 V, .int .i64 (at_ : Int)] 39) := ⟨_, rfl⟩
      rw [← hW0]
      have hS0 : Since w2 W0 := by rw [hW0]; exact hw.alloc _
      have HB := Lib.hid (show Bx W0 wr.heap.size #[.int .i64 (K : Int), .string T, .int .i64 V, .int .i64 (at_ : Int)] 39 by rw [hW0]; exact Bx.fresh _ _ _)
      clear hW0 g1 g2 g3 g4
      by_cases h2 : K = 2
      · have d12 : ((K : Int) != 2) = false := by rw [bne_eq_false_iff_eq]; omega
        have hr0 : Since W0 W0.drew := Since.drew (Since.refl W0)
        refine wp_region_noPanic ?_
        refine Reg.wp_region_G (S := fun _ => True) (fun j => [].contains j) (by kernel_rfl) trivial ?_
        refine' Reg.wpG_take (i := 0) (oi := { dst := some 45, op := Op.fieldAddr 39 (Operand.tmp 8) 3, type := 0, pos := "law.go:98", after := #[], guard := none }) (v := _) [1, 3, 4, 5, 6, 7, 8, 9, 10, 11, 12, 13, 14, 15, 16, 17, 18, 19, 20, 21, 22, 23, 24, 25, 26, 27, 28, 29, 30, 31, 32, 33, 34, 35, 36, 37, 38, 39, 40, 41, 42, 43, 44, 45, 46, 47, 48, 49, 50, 51, 52, 53, 54, 55, 56, 57, 58, 59, 60, 61, 62, 63] [] rfl rfl (by kernel_rfl) (by kernel_rfl) (by kernel_rfl) (by kernel_rfl) (by kernel_rfl) (by kernel_rfl) (by kernel_rfl) (fun _ _ _ h => h) (Or.inl ⟨by rfl, Or.inl ?hy2⟩) ?rest2
        case hy2 => (intro w' kk ss; obtain ⟨v1, v2, v3, v4⟩ := (HB.out.since (hr0.trans kk)).four; go_simp; first | done | with_reducible rfl)
        try simp only [Act.put, List.setIfInBounds_toArray, List.set_cons_zero, List.set_cons_succ]
        refine' Reg.wpG_take (i := 1) (oi := { dst := some 46, op := Op.load 3 (Operand.tmp 45), type := 3, pos := "law.go:98", after := #[{ on := 0, ground := Ground.data }], guard := none }) (v := _) [3, 4, 5, 6, 7, 8, 9, 10, 11, 12, 13, 14, 15, 16, 17, 18, 19, 20, 21, 22, 23, 24, 25, 26, 27, 28, 29, 30, 31, 32, 33, 34, 35, 36, 37, 38, 39, 40, 41, 42, 43, 44, 45, 46, 47, 48, 49, 50, 51, 52, 53, 54, 55, 56, 57, 58, 59, 60, 61, 62, 63] [] rfl rfl (by kernel_rfl) (by kernel_rfl) (by kernel_rfl) (by kernel_rfl) (by kernel_rfl) (by kernel_rfl) (by kernel_rfl) (fun _ _ _ h => h) (Or.inl ⟨by rfl, Or.inl ?hy3⟩) ?rest3
        case hy3 => (intro w' kk ss; obtain ⟨v1, v2, v3, v4⟩ := (HB.out.since (hr0.trans kk)).four; go_simp; first | done | with_reducible rfl)
        try simp only [Act.put, List.setIfInBounds_toArray, List.set_cons_zero, List.set_cons_succ]
        refine' Reg.wpG_take (i := 2) (oi := { dst := some 47, op := Op.move (Operand.tmp 6), type := 3, pos := "law.go:98", after := #[], guard := none }) (v := _) [3, 4, 5, 6, 7, 8, 9, 10, 11, 12, 13, 14, 15, 16, 17, 18, 19, 20, 21, 22, 23, 24, 25, 26, 27, 28, 29, 30, 31, 32, 33, 34, 35, 36, 37, 38, 39, 40, 41, 42, 43, 44, 45, 46, 47, 48, 49, 50, 51, 52, 53, 54, 55, 56, 57, 58, 59, 60, 61, 62, 63] [] rfl rfl (by kernel_rfl) (by kernel_rfl) (by kernel_rfl) (by kernel_rfl) (by kernel_rfl) (by kernel_rfl) (by kernel_rfl) (fun _ _ _ h => h) (Or.inl ⟨by rfl, Or.inl ?hy4⟩) ?rest4
        case hy4 => (intro w' kk ss; obtain ⟨v1, v2, v3, v4⟩ := (HB.out.since (hr0.trans kk)).four; go_simp; first | done | with_reducible rfl)
        try simp only [Act.put, List.setIfInBounds_toArray, List.set_cons_zero, List.set_cons_succ]
        refine' Reg.wpG_take (i := 3) (oi := { dst := some 48, op := Op.binOp BinOp.lss 3 (Operand.tmp 46) (Operand.tmp 47) 3, type := 4, pos := "law.go:98", after := #[{ on := 1, ground := Ground.data }, { on := 2, ground := Ground.data }], guard := none }) (v := _) [4, 5, 6, 7, 8, 9, 10, 11, 12, 13, 14, 15, 16, 17, 18, 19, 20, 21, 22, 23, 24, 25, 26, 27, 28, 29, 30, 31, 32, 33, 34, 35, 36, 37, 38, 39, 40, 41, 42, 43, 44, 45, 46, 47, 48, 49, 50, 51, 52, 53, 54, 55, 56, 57, 58, 59, 60, 61, 62, 63] [] rfl rfl (by kernel_rfl) (by kernel_rfl) (by kernel_rfl) (by kernel_rfl) (by kernel_rfl) (by kernel_rfl) (by kernel_rfl) (fun _ _ _ h => h) (Or.inl ⟨by rfl, Or.inl ?hy5⟩) ?rest5
        case hy5 => (intro w' kk ss; obtain ⟨v1, v2, v3, v4⟩ := (HB.out.since (hr0.trans kk)).four; go_simp; first | done | with_reducible rfl)
        try simp only [Act.put, List.setIfInBounds_toArray, List.set_cons_zero, List.set_cons_succ]
        refine' Reg.wpG_take (i := 4) (oi := { dst := some 49, op := Op.move (Operand.tmp 48), type := 4, pos := "law.go:98", after := #[{ on := 3, ground := Ground.data }], guard := none }) (v := _) [5, 6, 7, 8, 9, 10, 11, 12, 13, 14, 15, 16, 17, 18, 19, 20, 21, 22, 23, 24, 25, 26, 27, 28, 29, 30, 31, 32, 33, 34, 35, 36, 37, 38, 39, 40, 41, 42, 43, 44, 45, 46, 47, 48, 49, 50, 51, 52, 53, 54, 55, 56, 57, 58, 59, 60, 61, 62, 63] [] rfl rfl (by kernel_rfl) (by kernel_rfl) (by kernel_rfl) (by kernel_rfl) (by kernel_rfl) (by kernel_rfl) (by kernel_rfl) (fun _ _ _ h => h) (Or.inl ⟨by rfl, Or.inl ?hy6⟩) ?rest6
        case hy6 => (intro w' kk ss; obtain ⟨v1, v2, v3, v4⟩ := (HB.out.since (hr0.trans kk)).four; go_simp; first | done | with_reducible rfl)
        try simp only [Act.put, List.setIfInBounds_toArray, List.set_cons_zero, List.set_cons_succ]
        refine' Reg.wpG_take (i := 5) (oi := { dst := some 50, op := Op.fieldAddr 39 (Operand.tmp 8) 3, type := 0, pos := "law.go:98", after := #[{ on := 4, ground := Ground.guard }], guard := some (4, false) }) (v := _) [6, 10, 13, 14, 15, 16, 17, 18, 19, 20, 21, 22, 23, 24, 25, 26, 27, 28, 29, 30, 31, 32, 33, 34, 35, 36, 37, 38, 39, 40, 41, 42, 43, 44, 45, 46, 47, 48, 49, 50, 51, 52, 53, 54, 55, 56, 57, 58, 59, 60, 61, 62, 63] [] rfl rfl (by kernel_rfl) (by kernel_rfl) (by kernel_rfl) (by kernel_rfl) (by kernel_rfl) (by kernel_rfl) (by kernel_rfl) (fun _ _ _ h => h) (Or.inl ⟨by rfl, Or.inl ?hy7⟩) ?rest7
        case hy7 => (intro w' kk ss; obtain ⟨v1, v2, v3, v4⟩ := (HB.out.since (hr0.trans kk)).four; go_simp; first | done | with_reducible rfl)
        try simp only [Act.put, List.setIfInBounds_toArray, List.set_cons_zero, List.set_cons_succ]
        refine' Reg.wpG_take (i := 6) (oi := { dst := some 51, op := Op.load 3 (Operand.tmp 50), type := 3, pos := "law.go:98", after := #[{ on := 5, ground := Ground.data }, { on := 4, ground := Ground.guard }], guard := some (4, false) }) (v := _) [10, 13, 14, 15, 16, 17, 18, 19, 20, 21, 22, 23, 24, 25, 26, 27, 28, 29, 30, 31, 32, 33, 34, 35, 36, 37, 38, 39, 40, 41, 42, 43, 44, 45, 46, 47, 48, 49, 50, 51, 52, 53, 54, 55, 56, 57, 58, 59, 60, 61, 62, 63] [] rfl rfl (by kernel_rfl) (by kernel_rfl) (by kernel_rfl) (by kernel_rfl) (by kernel_rfl) (by kernel_rfl) (by kernel_rfl) (fun _ _ _ h => h) (Or.inl ⟨by rfl, Or.inl ?hy8⟩) ?rest8
        case hy8 => (intro w' kk ss; obtain ⟨v1, v2, v3, v4⟩ := (HB.out.since (hr0.trans kk)).four; go_simp; first | done | with_reducible rfl)
        try simp only [Act.put, List.setIfInBounds_toArray, List.set_cons_zero, List.set_cons_succ]
        refine' Reg.wpG_take (i := 7) (oi := { dst := some 52, op := Op.fieldAddr 39 (Operand.tmp 8) 1, type := 0, pos := "law.go:98", after := #[{ on := 4, ground := Ground.guard }], guard := some (4, false) }) (v := _) [8, 9, 10, 13, 14, 15, 16, 17, 18, 19, 20, 21, 22, 23, 24, 25, 26, 27, 28, 29, 30, 31, 32, 33, 34, 35, 36, 37, 38, 39, 40, 41, 42, 43, 44, 45, 46, 47, 48, 49, 50, 51, 52, 53, 54, 55, 56, 57, 58, 59, 60, 61, 62, 63] [] rfl rfl (by kernel_rfl) (by kernel_rfl) (by kernel_rfl) (by kernel_rfl) (by kernel_rfl) (by kernel_rfl) (by kernel_rfl) (fun _ _ _ h => h) (Or.inl ⟨by rfl, Or.inl ?hy9⟩) ?rest9
        case hy9 => (intro w' kk ss; obtain ⟨v1, v2, v3, v4⟩ := (HB.out.since (hr0.trans kk)).four; go_simp; first | done | with_reducible rfl)
        try simp only [Act.put, List.setIfInBounds_toArray, List.set_cons_zero, List.set_cons_succ]
        refine' Reg.wpG_take (i := 8) (oi := { dst := some 53, op := Op.load 9 (Operand.tmp 52), type := 9, pos := "law.go:98", after := #[{ on := 7, ground := Ground.data }, { on := 4, ground := Ground.guard }], guard := some (4, false) }) (v := _) [9, 10, 13, 14, 15, 16, 17, 18, 19, 20, 21, 22, 23, 24, 25, 26, 27, 28, 29, 30, 31, 32, 33, 34, 35, 36, 37, 38, 39, 40, 41, 42, 43, 44, 45, 46, 47, 48, 49, 50, 51, 52, 53, 54, 55, 56, 57, 58, 59, 60, 61, 62, 63] [] rfl rfl (by kernel_rfl) (by kernel_rfl) (by kernel_rfl) (by kernel_rfl) (by kernel_rfl) (by kernel_rfl) (by kernel_rfl) (fun _ _ _ h => h) (Or.inl ⟨by rfl, Or.inl ?hy10⟩) ?rest10
        case hy10 => (intro w' kk ss; obtain ⟨v1, v2, v3, v4⟩ := (HB.out.since (hr0.trans kk)).four; go_simp; first | done | with_reducible rfl)
        try simp only [Act.put, List.setIfInBounds_toArray, List.set_cons_zero, List.set_cons_succ]
        refine' Reg.wpG_take (i := 9) (oi := { dst := some 54, op := Op.call { callee := Callee.builtin Builtin.len, args := #[Operand.tmp 53], argTypes := #[9] }, type := 3, pos := "law.go:98", after := #[{ on := 8, ground := Ground.data }, { on := 4, ground := Ground.guard }], guard := some (4, false) }) (v := _) [10, 13, 14, 15, 16, 17, 18, 19, 20, 21, 22, 23, 24, 25, 26, 27, 28, 29, 30, 31, 32, 33, 34, 35, 36, 37, 38, 39, 40, 41, 42, 43, 44, 45, 46, 47, 48, 49, 50, 51, 52, 53, 54, 55, 56, 57, 58, 59, 60, 61, 62, 63] [] rfl rfl (by kernel_rfl) (by kernel_rfl) (by kernel_rfl) (by kernel_rfl) (by kernel_rfl) (by kernel_rfl) (by kernel_rfl) (fun _ _ _ h => h) (Or.inl ⟨by rfl, Or.inl ?hy11⟩) ?rest11
        case hy11 => (intro w' kk ss; obtain ⟨v1, v2, v3, v4⟩ := (HB.out.since (hr0.trans kk)).four; go_simp; first | done | with_reducible rfl)
        try simp only [Act.put, List.setIfInBounds_toArray, List.set_cons_zero, List.set_cons_succ]
        refine' Reg.wpG_take (i := 10) (oi := { dst := some 55, op := Op.binOp BinOp.add 3 (Operand.tmp 51) (Operand.tmp 54) 3, type := 3, pos := "law.go:98", after := #[{ on := 6, ground := Ground.data }, { on := 9, ground := Ground.data }, { on := 4, ground := Ground.guard }], guard := some (4, false) }) (v := _) [13, 14, 15, 16, 17, 18, 19, 20, 21, 22, 23, 24, 25, 26, 27, 28, 29, 30, 31, 32, 33, 34, 35, 36, 37, 38, 39, 40, 41, 42, 43, 44, 45, 46, 47, 48, 49, 50, 51, 52, 53, 54, 55, 56, 57, 58, 59, 60, 61, 62, 63] [] rfl rfl (by kernel_rfl) (by kernel_rfl) (by kernel_rfl) (by kernel_rfl) (by kernel_rfl) (by kernel_rfl) (by kernel_rfl) (fun _ _ _ h => h) (Or.inl ⟨by rfl, Or.inl ?hy12⟩) ?rest12
        case hy12 => (intro w' kk ss; obtain ⟨v1, v2, v3, v4⟩ := (HB.out.since (hr0.trans kk)).four; go_simp; first | done | with_reducible rfl)
        try simp only [Act.put, List.setIfInBounds_toArray, List.set_cons_zero, List.set_cons_succ]
        refine' Reg.wpG_take (i := 11) (oi := { dst := some 56, op := Op.move (Operand.tmp 0), type := 9, pos := "law.go:98", after := #[{ on := 4, ground := Ground.guard }], guard := some (4, false) }) (v := _) [12, 13, 14, 15, 16, 17, 18, 19, 20, 21, 22, 23, 24, 25, 26, 27, 28, 29, 30, 31, 32, 33, 34, 35, 36, 37, 38, 39, 40, 41, 42, 43, 44, 45, 46, 47, 48, 49, 50, 51, 52, 53, 54, 55, 56, 57, 58, 59, 60, 61, 62, 63] [] rfl rfl (by kernel_rfl) (by kernel_rfl) (by kernel_rfl) (by kernel_rfl) (by kernel_rfl) (by kernel_rfl) (by kernel_rfl) (fun _ _ _ h => h) (Or.inl ⟨by rfl, Or.inl ?hy13⟩) ?rest13
        case hy13 => (intro w' kk ss; obtain ⟨v1, v2, v3, v4⟩ := (HB.out.since (hr0.trans kk)).four; go_simp; first | done | with_reducible rfl)
        try simp only [Act.put, List.setIfInBounds_toArray, List.set_cons_zero, List.set_cons_succ]
        refine' Reg.wpG_take (i := 12) (oi := { dst := some 57, op := Op.call { callee := Callee.builtin Builtin.len, args := #[Operand.tmp 56], argTypes := #[9] }, type := 3, pos := "law.go:98", after := #[{ on := 11, ground := Ground.data }, { on := 4, ground := Ground.guard }], guard := some (4, false) }) (v := _) [13, 14, 15, 16, 17, 18, 19, 20, 21, 22, 23, 24, 25, 26, 27, 28, 29, 30, 31, 32, 33, 34, 35, 36, 37, 38, 39, 40, 41, 42, 43, 44, 45, 46, 47, 48, 49, 50, 51, 52, 53, 54, 55, 56, 57, 58, 59, 60, 61, 62, 63] [] rfl rfl (by kernel_rfl) (by kernel_rfl) (by kernel_rfl) (by kernel_rfl) (by kernel_rfl) (by kernel_rfl) (by kernel_rfl) (fun _ _ _ h => h) (Or.inl ⟨by rfl, Or.inl ?hy14⟩) ?rest14
        case hy14 => (intro w' kk ss; obtain ⟨v1, v2, v3, v4⟩ := (HB.out.since (hr0.trans kk)).four; go_simp; first | done | with_reducible rfl)
        try simp only [Act.put, List.setIfInBounds_toArray, List.set_cons_zero, List.set_cons_succ]
        refine' Reg.wpG_take (i := 13) (oi := { dst := some 58, op := Op.binOp BinOp.gtr 3 (Operand.tmp 55) (Operand.tmp 57) 3, type := 4, pos := "law.go:98", after := #[{ on := 10, ground := Ground.data }, { on := 12, ground := Ground.data }, { on := 4, ground := Ground.guard }], guard := some (4, false) }) (v := _) [14, 15, 16, 17, 18, 19, 20, 21, 22, 23, 24, 25, 26, 27, 28, 29, 30, 31, 32, 33, 34, 35, 36, 37, 38, 39, 40, 41, 42, 43, 44, 45, 46, 47, 48, 49, 50, 51, 52, 53, 54, 55, 56, 57, 58, 59, 60, 61, 62, 63] [] rfl rfl (by kernel_rfl) (by kernel_rfl) (by kernel_rfl) (by kernel_rfl) (by kernel_rfl) (by kernel_rfl) (by kernel_rfl) (fun _ _ _ h => h) (Or.inl ⟨by rfl, Or.inl ?hy15⟩) ?rest15
        case hy15 => (intro w' kk ss; obtain ⟨v1, v2, v3, v4⟩ := (HB.out.since (hr0.trans kk)).four; go_simp; first | done | with_reducible rfl)
        try simp only [Act.put, List.setIfInBounds_toArray, List.set_cons_zero, List.set_cons_succ]
        refine' Reg.wpG_take (i := 14) (oi := { dst := some 59, op := Op.pick (Operand.tmp 49) (Operand.const (Value.bool true)) (Operand.tmp 58), type := 4, pos := "law.go:98", after := #[{ on := 4, ground := Ground.data }, { on := 13, ground := Ground.data }], guard := none }) (v := _) [15, 16, 17, 18, 19, 20, 21, 22, 23, 24, 25, 26, 27, 28, 29, 30, 31, 32, 33, 34, 35, 36, 37, 38, 39, 40, 41, 42, 43, 44, 45, 46, 47, 48, 49, 50, 51, 52, 53, 54, 55, 56, 57, 58, 59, 60, 61, 62, 63] [] rfl rfl (by kernel_rfl) (by kernel_rfl) (by kernel_rfl) (by kernel_rfl) (by kernel_rfl) (by kernel_rfl) (by kernel_rfl) (fun _ _ _ h => h) (Or.inl ⟨by rfl, Or.inl ?hy16⟩) ?rest16
        case hy16 => (intro w' kk ss; obtain ⟨v1, v2, v3, v4⟩ := (HB.out.since (hr0.trans kk)).four; go_simp; first | done | with_reducible rfl)
        try simp only [Act.put, List.setIfInBounds_toArray, List.set_cons_zero, List.set_cons_succ]
        refine' Reg.wpG_take (i := 15) (oi := { dst := some 60, op := Op.move (Operand.tmp 59), type := 4, pos := "law.go:98", after := #[{ on := 14, ground := Ground.data }, { on := 4, ground := Ground.chain }], guard := none }) (v := _) [16, 17, 18, 19, 20, 21, 22, 23, 24, 25, 26, 27, 28, 29, 30, 31, 32, 33, 34, 35, 36, 37, 38, 39, 40, 41, 42, 43, 44, 45, 46, 47, 48, 49, 50, 51, 52, 53, 54, 55, 56, 57, 58, 59, 60, 61, 62, 63] [] rfl rfl (by kernel_rfl) (by kernel_rfl) (by kernel_rfl) (by kernel_rfl) (by kernel_rfl) (by kernel_rfl) (by kernel_rfl) (fun _ _ _ h => h) (Or.inl ⟨by rfl, Or.inl ?hy17⟩) ?rest17
        case hy17 => (intro w' kk ss; obtain ⟨v1, v2, v3, v4⟩ := (HB.out.since (hr0.trans kk)).four; go_simp; first | done | with_reducible rfl)
        try simp only [Act.put, List.setIfInBounds_toArray, List.set_cons_zero, List.set_cons_succ]
        refine' Reg.wpG_take (i := 16) (oi := { dst := some 61, op := Op.fieldAddr 39 (Operand.tmp 8) 1, type := 0, pos := "law.go:98", after := #[{ on := 15, ground := Ground.guard }], guard := some (15, false) }) (v := _) [17, 18, 19, 20, 21, 22, 23, 24, 25, 26, 27, 28, 29, 30, 31, 32, 33, 34, 35, 36, 37, 38, 39, 40, 41, 42, 43, 44, 45, 46, 47, 48, 49, 50, 51, 52, 53, 54, 55, 56, 57, 58, 59, 60, 61, 62, 63] [] rfl rfl (by kernel_rfl) (by kernel_rfl) (by kernel_rfl) (by kernel_rfl) (by kernel_rfl) (by kernel_rfl) (by kernel_rfl) (fun _ _ _ h => h) (Or.inl ⟨by rfl, Or.inl ?hy18⟩) ?rest18
        case hy18 => (intro w' kk ss; obtain ⟨v1, v2, v3, v4⟩ := (HB.out.since (hr0.trans kk)).four; go_simp; first | done | with_reducible rfl)
        try simp only [Act.put, List.setIfInBounds_toArray, List.set_cons_zero, List.set_cons_succ]
        refine' Reg.wpG_take (i := 17) (oi := { dst := some 62, op := Op.load 9 (Operand.tmp 61), type := 9, pos := "law.go:98", after := #[{ on := 16, ground := Ground.data }, { on := 15, ground := Ground.guard }], guard := some (15, false) }) (v := _) [18, 19, 20, 21, 22, 23, 24, 25, 26, 27, 28, 29, 30, 31, 32, 33, 34, 35, 36, 37, 38, 39, 40, 41, 42, 43, 44, 45, 46, 47, 48, 49, 50, 51, 52, 53, 54, 55, 56, 57, 58, 59, 60, 61, 62, 63] [] rfl rfl (by kernel_rfl) (by kernel_rfl) (by kernel_rfl) (by kernel_rfl) (by kernel_rfl) (by kernel_rfl) (by kernel_rfl) (fun _ _ _ h => h) (Or.inl ⟨by rfl, Or.inl ?hy19⟩) ?rest19
        case hy19 => (intro w' kk ss; obtain ⟨v1, v2, v3, v4⟩ := (HB.out.since (hr0.trans kk)).four; go_simp; first | done | with_reducible rfl)
        try simp only [Act.put, List.setIfInBounds_toArray, List.set_cons_zero, List.set_cons_succ]
        refine' Reg.wpG_take (i := 18) (oi := { dst := some 63, op := Op.binOp BinOp.eql 9 (Operand.tmp 62) (Operand.const (Value.string { data := #[] })) 9, type := 4, pos := "law.go:98", after := #[{ on := 17, ground := Ground.data }, { on := 15, ground := Ground.guard }], guard := some (15, false) }) (v := _) [19, 20, 21, 22, 23, 24, 25, 26, 27, 28, 29, 30, 31, 32, 33, 34, 35, 36, 37, 38, 39, 40, 41, 42, 43, 44, 45, 46, 47, 48, 49, 50, 51, 52, 53, 54, 55, 56, 57, 58, 59, 60, 61, 62, 63] [] rfl rfl (by kernel_rfl) (by kernel_rfl) (by kernel_rfl) (by kernel_rfl) (by kernel_rfl) (by kernel_rfl) (by kernel_rfl) (fun _ _ _ h => h) (Or.inl ⟨by rfl, Or.inl ?hy20⟩) ?rest20
        case hy20 => (intro w' kk ss; obtain ⟨v1, v2, v3, v4⟩ := (HB.out.since (hr0.trans kk)).four; go_simp; first | done | with_reducible rfl)
        try simp only [Act.put, List.setIfInBounds_toArray, List.set_cons_zero, List.set_cons_succ]
        refine' Reg.wpG_take (i := 19) (oi := { dst := some 64, op := Op.pick (Operand.tmp 60) (Operand.const (Value.bool true)) (Operand.tmp 63), type := 4, pos := "law.go:98", after := #[{ on := 15, ground := Ground.data }, { on := 18, ground := Ground.data }], guard := none }) (v := _) [20, 21, 22, 23, 24, 25, 26, 27, 28, 29, 30, 31, 32, 33, 34, 35, 36, 37, 38, 39, 40, 41, 42, 43, 44, 45, 46, 47, 48, 49, 50, 51, 52, 53, 54, 55, 56, 57, 58, 59, 60, 61, 62, 63] [] rfl rfl (by kernel_rfl) (by kernel_rfl) (by kernel_rfl) (by kernel_rfl) (by kernel_rfl) (by kernel_rfl) (by kernel_rfl) (fun _ _ _ h => h) (Or.inl ⟨by rfl, Or.inl ?hy21⟩) ?rest21
        case hy21 => (intro w' kk ss; obtain ⟨v1, v2, v3, v4⟩ := (HB.out.since (hr0.trans kk)).four; go_simp; first | done | with_reducible rfl)
        try simp only [Act.put, List.setIfInBounds_toArray, List.set_cons_zero, List.set_cons_succ]
        refine' Reg.wpG_take (i := 20) (oi := { dst := some 65, op := Op.move (Operand.tmp 64), type := 4, pos := "law.go:98", after := #[{ on := 19, ground := Ground.data }, { on := 15, ground := Ground.chain }], guard := none }) (v := _) [21, 22, 23, 24, 25, 26, 27, 28, 29, 30, 31, 32, 33, 34, 35, 36, 37, 38, 39, 40, 41, 42, 43, 44, 45, 46, 47, 48, 49, 50, 51, 52, 53, 54, 55, 56, 57, 58, 59, 60, 61, 62, 63] [] rfl rfl (by kernel_rfl) (by kernel_rfl) (by kernel_rfl) (by kernel_rfl) (by kernel_rfl) (by kernel_rfl) (by kernel_rfl) (fun _ _ _ h => h) (Or.inl ⟨by rfl, Or.inl ?hy22⟩) ?rest22
        case hy22 => (intro w' kk ss; obtain ⟨v1, v2, v3, v4⟩ := (HB.out.since (hr0.trans kk)).four; go_simp; first | done | with_reducible rfl)
        try simp only [Act.put, List.setIfInBounds_toArray, List.set_cons_zero, List.set_cons_succ]
        refine' Reg.wpG_take (i := 21) (oi := { dst := some 66, op := Op.move (Operand.tmp 0), type := 9, pos := "law.go:98", after := #[{ on := 20, ground := Ground.guard }], guard := some (20, false) }) (v := _) [30, 33, 34, 35, 36, 37, 38, 39, 40, 41, 42, 43, 44, 45, 46, 47, 48, 49, 50, 51, 52, 53, 54, 55, 56, 57, 58, 59, 60, 61, 62, 63] [] rfl rfl (by kernel_rfl) (by kernel_rfl) (by kernel_rfl) (by kernel_rfl) (by kernel_rfl) (by kernel_rfl) (by kernel_rfl) (fun _ _ _ h => h) (Or.inl ⟨by rfl, Or.inl ?hy23⟩) ?rest23
        case hy23 => (intro w' kk ss; obtain ⟨v1, v2, v3, v4⟩ := (HB.out.since (hr0.trans kk)).four; go_simp; first | done | with_reducible rfl)
        try simp only [Act.put, List.setIfInBounds_toArray, List.set_cons_zero, List.set_cons_succ]
        refine' Reg.wpG_take (i := 22) (oi := { dst := some 67, op := Op.fieldAddr 39 (Operand.tmp 8) 3, type := 0, pos := "law.go:98", after := #[{ on := 20, ground := Ground.guard }], guard := some (20, false) }) (v := _) [23, 30, 33, 34, 35, 36, 37, 38, 39, 40, 41, 42, 43, 44, 45, 46, 47, 48, 49, 50, 51, 52, 53, 54, 55, 56, 57, 58, 59, 60, 61, 62, 63] [] rfl rfl (by kernel_rfl) (by kernel_rfl) (by kernel_rfl) (by kernel_rfl) (by kernel_rfl) (by kernel_rfl) (by kernel_rfl) (fun _ _ _ h => h) (Or.inl ⟨by rfl, Or.inl ?hy24⟩) ?rest24
        case hy24 => (intro w' kk ss; obtain ⟨v1, v2, v3, v4⟩ := (HB.out.since (hr0.trans kk)).four; go_simp; first | done | with_reducible rfl)
        try simp only [Act.put, List.setIfInBounds_toArray, List.set_cons_zero, List.set_cons_succ]
        refine' Reg.wpG_take (i := 23) (oi := { dst := some 68, op := Op.load 3 (Operand.tmp 67), type := 3, pos := "law.go:98", after := #[{ on := 22, ground := Ground.data }, { on := 20, ground := Ground.guard }], guard := some (20, false) }) (v := _) [30, 33, 34, 35, 36, 37, 38, 39, 40, 41, 42, 43, 44, 45, 46, 47, 48, 49, 50, 51, 52, 53, 54, 55, 56, 57, 58, 59, 60, 61, 62, 63] [] rfl rfl (by kernel_rfl) (by kernel_rfl) (by kernel_rfl) (by kernel_rfl) (by kernel_rfl) (by kernel_rfl) (by kernel_rfl) (fun _ _ _ h => h) (Or.inl ⟨by rfl, Or.inl ?hy25⟩) ?rest25
        case hy25 => (intro w' kk ss; obtain ⟨v1, v2, v3, v4⟩ := (HB.out.since (hr0.trans kk)).four; go_simp; first | done | with_reducible rfl)
        try simp only [Act.put, List.setIfInBounds_toArray, List.set_cons_zero, List.set_cons_succ]
        refine' Reg.wpG_take (i := 24) (oi := { dst := some 69, op := Op.fieldAddr 39 (Operand.tmp 8) 3, type := 0, pos := "law.go:98", after := #[{ on := 20, ground := Ground.guard }], guard := some (20, false) }) (v := _) [25, 29, 30, 33, 34, 35, 36, 37, 38, 39, 40, 41, 42, 43, 44, 45, 46, 47, 48, 49, 50, 51, 52, 53, 54, 55, 56, 57, 58, 59, 60, 61, 62, 63] [] rfl rfl (by kernel_rfl) (by kernel_rfl) (by kernel_rfl) (by kernel_rfl) (by kernel_rfl) (by kernel_rfl) (by kernel_rfl) (fun _ _ _ h => h) (Or.inl ⟨by rfl, Or.inl ?hy26⟩) ?rest26
        case hy26 => (intro w' kk ss; obtain ⟨v1, v2, v3, v4⟩ := (HB.out.since (hr0.trans kk)).four; go_simp; first | done | with_reducible rfl)
        try simp only [Act.put, List.setIfInBounds_toArray, List.set_cons_zero, List.set_cons_succ]
        refine' Reg.wpG_take (i := 25) (oi := { dst := some 70, op := Op.load 3 (Operand.tmp 69), type := 3, pos := "law.go:98", after := #[{ on := 24, ground := Ground.data }, { on := 20, ground := Ground.guard }], guard := some (20, false) }) (v := _) [29, 30, 33, 34, 35, 36, 37, 38, 39, 40, 41, 42, 43, 44, 45, 46, 47, 48, 49, 50, 51, 52, 53, 54, 55, 56, 57, 58, 59, 60, 61, 62, 63] [] rfl rfl (by kernel_rfl) (by kernel_rfl) (by kernel_rfl) (by kernel_rfl) (by kernel_rfl) (by kernel_rfl) (by kernel_rfl) (fun _ _ _ h => h) (Or.inl ⟨by rfl, Or.inl ?hy27⟩) ?rest27
        case hy27 => (intro w' kk ss; obtain ⟨v1, v2, v3, v4⟩ := (HB.out.since (hr0.trans kk)).four; go_simp; first | done | with_reducible rfl)
        try simp only [Act.put, List.setIfInBounds_toArray, List.set_cons_zero, List.set_cons_succ]
        refine' Reg.wpG_take (i := 26) (oi := { dst := some 71, op := Op.fieldAddr 39 (Operand.tmp 8) 1, type := 0, pos := "law.go:98", after := #[{ on := 20, ground := Ground.guard }], guard := some (20, false) }) (v := _) [27, 28, 29, 30, 33, 34, 35, 36, 37, 38, 39, 40, 41, 42, 43, 44, 45, 46, 47, 48, 49, 50, 51, 52, 53, 54, 55, 56, 57, 58, 59, 60, 61, 62, 63] [] rfl rfl (by kernel_rfl) (by kernel_rfl) (by kernel_rfl) (by kernel_rfl) (by kernel_rfl) (by kernel_rfl) (by kernel_rfl) (fun _ _ _ h => h) (Or.inl ⟨by rfl, Or.inl ?hy28⟩) ?rest28
        case hy28 => (intro w' kk ss; obtain ⟨v1, v2, v3, v4⟩ := (HB.out.since (hr0.trans kk)).four; go_simp; first | done | with_reducible rfl)
        try simp only [Act.put, List.setIfInBounds_toArray, List.set_cons_zero, List.set_cons_succ]
        refine' Reg.wpG_take (i := 27) (oi := { dst := some 72, op := Op.load 9 (Operand.tmp 71), type := 9, pos := "law.go:98", after := #[{ on := 26, ground := Ground.data }, { on := 20, ground := Ground.guard }], guard := some (20, false) }) (v := _) [28, 29, 30, 33, 34, 35, 36, 37, 38, 39, 40, 41, 42, 43, 44, 45, 46, 47, 48, 49, 50, 51, 52, 53, 54, 55, 56, 57, 58, 59, 60, 61, 62, 63] [] rfl rfl (by kernel_rfl) (by kernel_rfl) (by kernel_rfl) (by kernel_rfl) (by kernel_rfl) (by kernel_rfl) (by kernel_rfl) (fun _ _ _ h => h) (Or.inl ⟨by rfl, Or.inl ?hy29⟩) ?rest29
        case hy29 => (intro w' kk ss; obtain ⟨v1, v2, v3, v4⟩ := (HB.out.since (hr0.trans kk)).four; go_simp; first | done | with_reducible rfl)
        try simp only [Act.put, List.setIfInBounds_toArray, List.set_cons_zero, List.set_cons_succ]
        refine' Reg.wpG_take (i := 28) (oi := { dst := some 73, op := Op.call { callee := Callee.builtin Builtin.len, args := #[Operand.tmp 72], argTypes := #[9] }, type := 3, pos := "law.go:98", after := #[{ on := 27, ground := Ground.data }, { on := 20, ground := Ground.guard }], guard := some (20, false) }) (v := _) [29, 30, 33, 34, 35, 36, 37, 38, 39, 40, 41, 42, 43, 44, 45, 46, 47, 48, 49, 50, 51, 52, 53, 54, 55, 56, 57, 58, 59, 60, 61, 62, 63] [] rfl rfl (by kernel_rfl) (by kernel_rfl) (by kernel_rfl) (by kernel_rfl) (by kernel_rfl) (by kernel_rfl) (by kernel_rfl) (fun _ _ _ h => h) (Or.inl ⟨by rfl, Or.inl ?hy30⟩) ?rest30
        case hy30 => (intro w' kk ss; obtain ⟨v1, v2, v3, v4⟩ := (HB.out.since (hr0.trans kk)).four; go_simp; first | done | with_reducible rfl)
        try simp only [Act.put, List.setIfInBounds_toArray, List.set_cons_zero, List.set_cons_succ]
        refine' Reg.wpG_take (i := 29) (oi := { dst := some 74, op := Op.binOp BinOp.add 3 (Operand.tmp 70) (Operand.tmp 73) 3, type := 3, pos := "law.go:98", after := #[{ on := 25, ground := Ground.data }, { on := 28, ground := Ground.data }, { on := 20, ground := Ground.guard }], guard := some (20, false) }) (v := _) [30, 33, 34, 35, 36, 37, 38, 39, 40, 41, 42, 43, 44, 45, 46, 47, 48, 49, 50, 51, 52, 53, 54, 55, 56, 57, 58, 59, 60, 61, 62, 63] [] rfl rfl (by kernel_rfl) (by kernel_rfl) (by kernel_rfl) (by kernel_rfl) (by kernel_rfl) (by kernel_rfl) (by kernel_rfl) (fun _ _ _ h => h) (Or.inl ⟨by rfl, Or.inl ?hy31⟩) ?rest31
        case hy31 => (intro w' kk ss; obtain ⟨v1, v2, v3, v4⟩ := (HB.out.since (hr0.trans kk)).four; go_simp; first | done | with_reducible rfl)
        try simp only [Act.put, List.setIfInBounds_toArray, List.set_cons_zero, List.set_cons_succ]
        refine' Reg.wpG_take (i := 30) (oi := { dst := some 75, op := Op.slice 9 (Operand.tmp 66) (some (Operand.tmp 68)) (some (Operand.tmp 74)) none, type := 9, pos := "law.go:98", after := #[{ on := 21, ground := Ground.data }, { on := 23, ground := Ground.data }, { on := 29, ground := Ground.data }, { on := 20, ground := Ground.guard }], guard := some (20, false) }) (v := _) [33, 34, 35, 36, 37, 38, 39, 40, 41, 42, 43, 44, 45, 46, 47, 48, 49, 50, 51, 52, 53, 54, 55, 56, 57, 58, 59, 60, 61, 62, 63] [] rfl rfl (by kernel_rfl) (by kernel_rfl) (by kernel_rfl) (by kernel_rfl) (by kernel_rfl) (by kernel_rfl) (by kernel_rfl) (fun _ _ _ h => h) (Or.inl ⟨by rfl, Or.inl ?hy32⟩) ?rest32
        case hy32 => (intro w' kk ss; obtain ⟨v1, v2, v3, v4⟩ := (HB.out.since (hr0.trans kk)).four; go_simp; first | done | with_reducible rfl)
        try simp only [Act.put, List.setIfInBounds_toArray, List.set_cons_zero, List.set_cons_succ]
        refine' Reg.wpG_take (i := 31) (oi := { dst := some 76, op := Op.fieldAddr 39 (Operand.tmp 8) 1, type := 0, pos := "law.go:98", after := #[{ on := 20, ground := Ground.guard }], guard := some (20, false) }) (v := _) [32, 33, 34, 35, 36, 37, 38, 39, 40, 41, 42, 43, 44, 45, 46, 47, 48, 49, 50, 51, 52, 53, 54, 55, 56, 57, 58, 59, 60, 61, 62, 63] [] rfl rfl (by kernel_rfl) (by kernel_rfl) (by kernel_rfl) (by kernel_rfl) (by kernel_rfl) (by kernel_rfl) (by kernel_rfl) (fun _ _ _ h => h) (Or.inl ⟨by rfl, Or.inl ?hy33⟩) ?rest33
        case hy33 => (intro w' kk ss; obtain ⟨v1, v2, v3, v4⟩ := (HB.out.since (hr0.trans kk)).four; go_simp; first | done | with_reducible rfl)
        try simp only [Act.put, List.setIfInBounds_toArray, List.set_cons_zero, List.set_cons_succ]
        refine' Reg.wpG_take (i := 32) (oi := { dst := some 77, op := Op.load 9 (Operand.tmp 76), type := 9, pos := "law.go:98", after := #[{ on := 31, ground := Ground.data }, { on := 20, ground := Ground.guard }], guard := some (20, false) }) (v := _) [33, 34, 35, 36, 37, 38, 39, 40, 41, 42, 43, 44, 45, 46, 47, 48, 49, 50, 51, 52, 53, 54, 55, 56, 57, 58, 59, 60, 61, 62, 63] [] rfl rfl (by kernel_rfl) (by kernel_rfl) (by kernel_rfl) (by kernel_rfl) (by kernel_rfl) (by kernel_rfl) (by kernel_rfl) (fun _ _ _ h => h) (Or.inl ⟨by rfl, Or.inl ?hy34⟩) ?rest34
        case hy34 => (intro w' kk ss; obtain ⟨v1, v2, v3, v4⟩ := (HB.out.since (hr0.trans kk)).four; go_simp; first | done | with_reducible rfl)
        try simp only [Act.put, List.setIfInBounds_toArray, List.set_cons_zero, List.set_cons_succ]
        refine' Reg.wpG_take (i := 33) (oi := { dst := some 78, op := Op.binOp BinOp.neq 9 (Operand.tmp 75) (Operand.tmp 77) 9, type := 4, pos := "law.go:98", after := #[{ on := 30, ground := Ground.data }, { on := 32, ground := Ground.data }, { on := 20, ground := Ground.guard }], guard := some (20, false) }) (v := _) [34, 35, 36, 37, 38, 39, 40, 41, 42, 43, 44, 45, 46, 47, 48, 49, 50, 51, 52, 53, 54, 55, 56, 57, 58, 59, 60, 61, 62, 63] [] rfl rfl (by kernel_rfl) (by kernel_rfl) (by kernel_rfl) (by kernel_rfl) (by kernel_rfl) (by kernel_rfl) (by kernel_rfl) (fun _ _ _ h => h) (Or.inl ⟨by rfl, Or.inl ?hy35⟩) ?rest35
        case hy35 => (intro w' kk ss; obtain ⟨v1, v2, v3, v4⟩ := (HB.out.since (hr0.trans kk)).four; go_simp; first | done | with_reducible rfl)
        try simp only [Act.put, List.setIfInBounds_toArray, List.set_cons_zero, List.set_cons_succ]
        refine' Reg.wpG_take (i := 34) (oi := { dst := some 79, op := Op.pick (Operand.tmp 65) (Operand.const (Value.bool true)) (Operand.tmp 78), type := 4, pos := "law.go:98", after := #[{ on := 20, ground := Ground.data }, { on := 33, ground := Ground.data }], guard := none }) (v := _) [35, 36, 37, 38, 39, 40, 41, 42, 43, 44, 45, 46, 47, 48, 49, 50, 51, 52, 53, 54, 55, 56, 57, 58, 59, 60, 61, 62, 63] [] rfl rfl (by kernel_rfl) (by kernel_rfl) (by kernel_rfl) (by kernel_rfl) (by kernel_rfl) (by kernel_rfl) (by kernel_rfl) (fun _ _ _ h => h) (Or.inl ⟨by rfl, Or.inl ?hy36⟩) ?rest36
        case hy36 => (intro w' kk ss; obtain ⟨v1, v2, v3, v4⟩ := (HB.out.since (hr0.trans kk)).four; go_simp; first | done | with_reducible rfl)
        try simp only [Act.put, List.setIfInBounds_toArray, List.set_cons_zero, List.set_cons_succ]
        refine' Reg.wpG_take (i := 35) (oi := { dst := some 80, op := Op.move (Operand.tmp 79), type := 4, pos := "law.go:98", after := #[{ on := 34, ground := Ground.data }, { on := 20, ground := Ground.chain }], guard := none }) (v := _) [36, 37, 38, 39, 40, 41, 42, 43, 44, 45, 46, 47, 48, 49, 50, 51, 52, 53, 54, 55, 56, 57, 58, 59, 60, 61, 62, 63] [] rfl rfl (by kernel_rfl) (by kernel_rfl) (by kernel_rfl) (by kernel_rfl) (by kernel_rfl) (by kernel_rfl) (by kernel_rfl) (fun _ _ _ h => h) (Or.inl ⟨by rfl, Or.inl ?hy37⟩) ?rest37
        case hy37 => (intro w' kk ss; obtain ⟨v1, v2, v3, v4⟩ := (HB.out.since (hr0.trans kk)).four; go_simp; first | done | with_reducible rfl)
        try simp only [Act.put, List.setIfInBounds_toArray, List.set_cons_zero, List.set_cons_succ]
        refine' Reg.wpG_take (i := 36) (oi := { dst := some 81, op := Op.move (Operand.tmp 0), type := 9, pos := "law.go:98", after := #[{ on := 35, ground := Ground.guard }], guard := some (35, false) }) (v := _) [40, 41, 42, 43, 44, 45, 46, 47, 48, 49, 50, 51, 52, 53, 54, 55, 56, 57, 58, 59, 60, 61, 62, 63] [] rfl rfl (by kernel_rfl) (by kernel_rfl) (by kernel_rfl) (by kernel_rfl) (by kernel_rfl) (by kernel_rfl) (by kernel_rfl) (fun _ _ _ h => h) (Or.inl ⟨by rfl, Or.inl ?hy38⟩) ?rest38
        case hy38 => (intro w' kk ss; obtain ⟨v1, v2, v3, v4⟩ := (HB.out.since (hr0.trans kk)).four; go_simp; first | done | with_reducible rfl)
        try simp only [Act.put, List.setIfInBounds_toArray, List.set_cons_zero, List.set_cons_succ]
        refine' Reg.wpG_take (i := 37) (oi := { dst := some 82, op := Op.move (Operand.tmp 6), type := 3, pos := "law.go:98", after := #[{ on := 35, ground := Ground.guard }], guard := some (35, false) }) (v := _) [40, 41, 42, 43, 44, 45, 46, 47, 48, 49, 50, 51, 52, 53, 54, 55, 56, 57, 58, 59, 60, 61, 62, 63] [] rfl rfl (by kernel_rfl) (by kernel_rfl) (by kernel_rfl) (by kernel_rfl) (by kernel_rfl) (by kernel_rfl) (by kernel_rfl) (fun _ _ _ h => h) (Or.inl ⟨by rfl, Or.inl ?hy39⟩) ?rest39
        case hy39 => (intro w' kk ss; obtain ⟨v1, v2, v3, v4⟩ := (HB.out.since (hr0.trans kk)).four; go_simp; first | done | with_reducible rfl)
        try simp only [Act.put, List.setIfInBounds_toArray, List.set_cons_zero, List.set_cons_succ]
        refine' Reg.wpG_take (i := 38) (oi := { dst := some 83, op := Op.fieldAddr 39 (Operand.tmp 8) 3, type := 0, pos := "law.go:98", after := #[{ on := 35, ground := Ground.guard }], guard := some (35, false) }) (v := _) [39, 40, 41, 42, 43, 44, 45, 46, 47, 48, 49, 50, 51, 52, 53, 54, 55, 56, 57, 58, 59, 60, 61, 62, 63] [] rfl rfl (by kernel_rfl) (by kernel_rfl) (by kernel_rfl) (by kernel_rfl) (by kernel_rfl) (by kernel_rfl) (by kernel_rfl) (fun _ _ _ h => h) (Or.inl ⟨by rfl, Or.inl ?hy40⟩) ?rest40
        case hy40 => (intro w' kk ss; obtain ⟨v1, v2, v3, v4⟩ := (HB.out.since (hr0.trans kk)).four; go_simp; first | done | with_reducible rfl)
        try simp only [Act.put, List.setIfInBounds_toArray, List.set_cons_zero, List.set_cons_succ]
        refine' Reg.wpG_take (i := 39) (oi := { dst := some 84, op := Op.load 3 (Operand.tmp 83), type := 3, pos := "law.go:98", after := #[{ on := 38, ground := Ground.data }, { on := 35, ground := Ground.guard }], guard := some (35, false) }) (v := _) [40, 41, 42, 43, 44, 45, 46, 47, 48, 49, 50, 51, 52, 53, 54, 55, 56, 57, 58, 59, 60, 61, 62, 63] [] rfl rfl (by kernel_rfl) (by kernel_rfl) (by kernel_rfl) (by kernel_rfl) (by kernel_rfl) (by kernel_rfl) (by kernel_rfl) (fun _ _ _ h => h) (Or.inl ⟨by rfl, Or.inl ?hy41⟩) ?rest41
        case hy41 => (intro w' kk ss; obtain ⟨v1, v2, v3, v4⟩ := (HB.out.since (hr0.trans kk)).four; go_simp; first | done | with_reducible rfl)
        try simp only [Act.put, List.setIfInBounds_toArray, List.set_cons_zero, List.set_cons_succ]
        refine' Reg.wpG_take (i := 40) (oi := { dst := some 85, op := Op.slice 9 (Operand.tmp 81) (some (Operand.tmp 82)) (some (Operand.tmp 84)) none, type := 9, pos := "law.go:98", after := #[{ on := 36, ground := Ground.data }, { on := 37, ground := Ground.data }, { on := 39, ground := Ground.data }, { on := 35, ground := Ground.guard }], guard := some (35, false) }) (v := _) [41, 42, 43, 44, 45, 46, 47, 48, 49, 50, 51, 52, 53, 54, 55, 56, 57, 58, 59, 60, 61, 62, 63] [] rfl rfl (by kernel_rfl) (by kernel_rfl) (by kernel_rfl) (by kernel_rfl) (by kernel_rfl) (by kernel_rfl) (by kernel_rfl) (fun _ _ _ h => h) (Or.inl ⟨by rfl, Or.inl ?hy42⟩) ?rest42
        case hy42 => (intro w' kk ss; obtain ⟨v1, v2, v3, v4⟩ := (HB.out.since (hr0.trans kk)).four; go_simp; first | done | with_reducible rfl)
        try simp only [Act.put, List.setIfInBounds_toArray, List.set_cons_zero, List.set_cons_succ]
        refine Reg.wpG_ready (rs := [41]) (by kernel_rfl) (by simp) (fun wq1001 k1001' sq1001 => ?_)
        have hr0 := hr0.trans k1001'
        refine Reg.AllG.first (o := { dst := some 86, op := Op.call { callee := Callee.value (Operand.func 16), args := #[Operand.tmp 85], argTypes := #[9] }, type := 4, pos := "law.go:98", after := #[{ on := 40, ground := Ground.data }, { on := 35, ground := Ground.chain }, { on := 35, ground := Ground.guard }], guard := some (35, false) }) rfl (by rfl) (fun K hK => ?_) Reg.AllG.nil
        go_simp
        (with_reducible refine (BL.out wq1001).mono ?_)
        rintro e y1001 ⟨rfl, hx⟩
        refine hK.out _ _ trivial hx ?_
        clear hK K
        have hr0 := hr0.trans hx
        clear hx
        try simp only [Act.put, List.setIfInBounds_toArray, List.set_cons_zero, List.set_cons_succ]
        refine' Reg.wpG_take (i := 42) (oi := { dst := some 87, op := Op.unOp UnOp.not 4 (Operand.tmp 86), type := 4, pos := "law.go:98", after := #[{ on := 41, ground := Ground.data }, { on := 35, ground := Ground.guard }], guard := some (35, false) }) (v := _) [43, 44, 45, 46, 47, 48, 49, 50, 51, 52, 53, 54, 55, 56, 57, 58, 59, 60, 61, 62, 63] [] rfl rfl (by kernel_rfl) (by kernel_rfl) (by kernel_rfl) (by kernel_rfl) (by kernel_rfl) (by kernel_rfl) (by kernel_rfl) (fun _ _ _ h => h) (Or.inl ⟨by rfl, Or.inl ?hy43⟩) ?rest43
        case hy43 => (intro w' kk ss; obtain ⟨v1, v2, v3, v4⟩ := (HB.out.since (hr0.trans kk)).four; go_simp; first | done | with_reducible rfl)
        try simp only [Act.put, List.setIfInBounds_toArray, List.set_cons_zero, List.set_cons_succ]
        refine' Reg.wpG_take (i := 43) (oi := { dst := some 88, op := Op.pick (Operand.tmp 80) (Operand.const (Value.bool true)) (Operand.tmp 87), type := 4, pos := "law.go:98", after := #[{ on := 35, ground := Ground.data }, { on := 42, ground := Ground.data }], guard := none }) (v := _) [44, 45, 46, 47, 48, 49, 50, 51, 52, 53, 54, 55, 56, 57, 58, 59, 60, 61, 62, 63] [] rfl rfl (by kernel_rfl) (by kernel_rfl) (by kernel_rfl) (by kernel_rfl) (by kernel_rfl) (by kernel_rfl) (by kernel_rfl) (fun _ _ _ h => h) (Or.inl ⟨by rfl, Or.inl ?hy44⟩) ?rest44
        case hy44 => (intro w' kk ss; obtain ⟨v1, v2, v3, v4⟩ := (HB.out.since (hr0.trans kk)).four; go_simp; first | done | with_reducible rfl)
        try simp only [Act.put, List.setIfInBounds_toArray, List.set_cons_zero, List.set_cons_succ]
        refine' Reg.wpG_take (i := 44) (oi := { dst := some 89, op := Op.move (Operand.tmp 88), type := 4, pos := "law.go:98", after := #[{ on := 43, ground := Ground.data }, { on := 41, ground := Ground.chain }], guard := none }) (v := _) [45, 46, 47, 48, 49, 50, 51, 52, 53, 54, 55, 56, 57, 58, 59, 60, 61, 62, 63] [] rfl rfl (by kernel_rfl) (by kernel_rfl) (by kernel_rfl) (by kernel_rfl) (by kernel_rfl) (by kernel_rfl) (by kernel_rfl) (fun _ _ _ h => h) (Or.inl ⟨by rfl, Or.inl ?hy45⟩) ?rest45
        case hy45 => (intro w' kk ss; obtain ⟨v1, v2, v3, v4⟩ := (HB.out.since (hr0.trans kk)).four; go_simp; first | done | with_reducible rfl)
        try simp only [Act.put, List.setIfInBounds_toArray, List.set_cons_zero, List.set_cons_succ]
        refine' Reg.wpG_take (i := 45) (oi := { dst := some 90, op := Op.fieldAddr 39 (Operand.tmp 8) 0, type := 0, pos := "law.go:98", after := #[{ on := 44, ground := Ground.guard }], guard := some (44, false) }) (v := _) [46, 47, 48, 49, 50, 51, 52, 53, 54, 55, 56, 57, 58, 59, 60, 61, 62, 63] [] rfl rfl (by kernel_rfl) (by kernel_rfl) (by kernel_rfl) (by kernel_rfl) (by kernel_rfl) (by kernel_rfl) (by kernel_rfl) (fun _ _ _ h => h) (Or.inl ⟨by rfl, Or.inl ?hy46⟩) ?rest46
        case hy46 => (intro w' kk ss; obtain ⟨v1, v2, v3, v4⟩ := (HB.out.since (hr0.trans kk)).four; go_simp; first | done | with_reducible rfl)
        try simp only [Act.put, List.setIfInBounds_toArray, List.set_cons_zero, List.set_cons_succ]
        refine' Reg.wpG_take (i := 46) (oi := { dst := some 91, op := Op.load 3 (Operand.tmp 90), type := 3, pos := "law.go:98", after := #[{ on := 45, ground := Ground.data }, { on := 44, ground := Ground.guard }], guard := some (44, false) }) (v := _) [47, 48, 49, 50, 51, 52, 53, 54, 55, 56, 57, 58, 59, 60, 61, 62, 63] [] rfl rfl (by kernel_rfl) (by kernel_rfl) (by kernel_rfl) (by kernel_rfl) (by kernel_rfl) (by kernel_rfl) (by kernel_rfl) (fun _ _ _ h => h) (Or.inl ⟨by rfl, Or.inl ?hy47⟩) ?rest47
        case hy47 => (intro w' kk ss; obtain ⟨v1, v2, v3, v4⟩ := (HB.out.since (hr0.trans kk)).four; go_simp; first | done | with_reducible rfl)
        try simp only [Act.put, List.setIfInBounds_toArray, List.set_cons_zero, List.set_cons_succ]
        refine' Reg.wpG_take (i := 47) (oi := { dst := some 92, op := Op.binOp BinOp.lss 3 (Operand.tmp 91) (Operand.const (Value.int IntKind.i64 1)) 3, type := 4, pos := "law.go:98", after := #[{ on := 46, ground := Ground.data }, { on := 44, ground := Ground.guard }], guard := some (44, false) }) (v := _) [48, 49, 50, 51, 52, 53, 54, 55, 56, 57, 58, 59, 60, 61, 62, 63] [] rfl rfl (by kernel_rfl) (by kernel_rfl) (by kernel_rfl) (by kernel_rfl) (by kernel_rfl) (by kernel_rfl) (by kernel_rfl) (fun _ _ _ h => h) (Or.inl ⟨by rfl, Or.inl ?hy48⟩) ?rest48
        case hy48 => (intro w' kk ss; obtain ⟨v1, v2, v3, v4⟩ := (HB.out.since (hr0.trans kk)).four; go_simp; first | done | with_reducible rfl)
        try simp only [Act.put, List.setIfInBounds_toArray, List.set_cons_zero, List.set_cons_succ]
        refine' Reg.wpG_take (i := 48) (oi := { dst := some 93, op := Op.pick (Operand.tmp 89) (Operand.const (Value.bool true)) (Operand.tmp 92), type := 4, pos := "law.go:98", after := #[{ on := 44, ground := Ground.data }, { on := 47, ground := Ground.data }], guard := none }) (v := _) [49, 50, 51, 52, 53, 54, 55, 56, 57, 58, 59, 60, 61, 62, 63] [] rfl rfl (by kernel_rfl) (by kernel_rfl) (by kernel_rfl) (by kernel_rfl) (by kernel_rfl) (by kernel_rfl) (by kernel_rfl) (fun _ _ _ h => h) (Or.inl ⟨by rfl, Or.inl ?hy49⟩) ?rest49
        case hy49 => (intro w' kk ss; obtain ⟨v1, v2, v3, v4⟩ := (HB.out.since (hr0.trans kk)).four; go_simp; first | done | with_reducible rfl)
        try simp only [Act.put, List.setIfInBounds_toArray, List.set_cons_zero, List.set_cons_succ]
        refine' Reg.wpG_take (i := 49) (oi := { dst := some 94, op := Op.move (Operand.tmp 93), type := 4, pos := "law.go:98", after := #[{ on := 48, ground := Ground.data }, { on := 44, ground := Ground.chain }], guard := none }) (v := _) [50, 51, 52, 53, 54, 55, 56, 57, 58, 59, 60, 61, 62, 63] [] rfl rfl (by kernel_rfl) (by kernel_rfl) (by kernel_rfl) (by kernel_rfl) (by kernel_rfl) (by kernel_rfl) (by kernel_rfl) (fun _ _ _ h => h) (Or.inl ⟨by rfl, Or.inl ?hy50⟩) ?rest50
        case hy50 => (intro w' kk ss; obtain ⟨v1, v2, v3, v4⟩ := (HB.out.since (hr0.trans kk)).four; go_simp; first | done | with_reducible rfl)
        try simp only [Act.put, List.setIfInBounds_toArray, List.set_cons_zero, List.set_cons_succ]
        refine' Reg.wpG_take (i := 50) (oi := { dst := some 95, op := Op.fieldAddr 39 (Operand.tmp 8) 0, type := 0, pos := "law.go:98", after := #[{ on := 49, ground := Ground.guard }], guard := some (49, false) }) (v := _) [51, 52, 53, 54, 55, 56, 57, 58, 59, 60, 61, 62, 63] [] rfl rfl (by kernel_rfl) (by kernel_rfl) (by kernel_rfl) (by kernel_rfl) (by kernel_rfl) (by kernel_rfl) (by kernel_rfl) (fun _ _ _ h => h) (Or.inl ⟨by rfl, Or.inl ?hy51⟩) ?rest51
        case hy51 => (intro w' kk ss; obtain ⟨v1, v2, v3, v4⟩ := (HB.out.since (hr0.trans kk)).four; go_simp; first | done | with_reducible rfl)
        try simp only [Act.put, List.setIfInBounds_toArray, List.set_cons_zero, List.set_cons_succ]
        refine' Reg.wpG_take (i := 51) (oi := { dst := some 96, op := Op.load 3 (Operand.tmp 95), type := 3, pos := "law.go:98", after := #[{ on := 50, ground := Ground.data }, { on := 49, ground := Ground.guard }], guard := some (49, false) }) (v := _) [52, 53, 54, 55, 56, 57, 58, 59, 60, 61, 62, 63] [] rfl rfl (by kernel_rfl) (by kernel_rfl) (by kernel_rfl) (by kernel_rfl) (by kernel_rfl) (by kernel_rfl) (by kernel_rfl) (fun _ _ _ h => h) (Or.inl ⟨by rfl, Or.inl ?hy52⟩) ?rest52
        case hy52 => (intro w' kk ss; obtain ⟨v1, v2, v3, v4⟩ := (HB.out.since (hr0.trans kk)).four; go_simp; first | done | with_reducible rfl)
        try simp only [Act.put, List.setIfInBounds_toArray, List.set_cons_zero, List.set_cons_succ]
        refine' Reg.wpG_take (i := 52) (oi := { dst := some 97, op := Op.binOp BinOp.gtr 3 (Operand.tmp 96) (Operand.const (Value.int IntKind.i64 3)) 3, type := 4, pos := "law.go:98", after := #[{ on := 51, ground := Ground.data }, { on := 49, ground := Ground.guard }], guard := some (49, false) }) (v := _) [53, 54, 55, 56, 57, 58, 59, 60, 61, 62, 63] [] rfl rfl (by kernel_rfl) (by kernel_rfl) (by kernel_rfl) (by kernel_rfl) (by kernel_rfl) (by kernel_rfl) (by kernel_rfl) (fun _ _ _ h => h) (Or.inl ⟨by rfl, Or.inl ?hy53⟩) ?rest53
        case hy53 => (intro w' kk ss; obtain ⟨v1, v2, v3, v4⟩ := (HB.out.since (hr0.trans kk)).four; go_simp; first | done | with_reducible rfl)
        try simp only [Act.put, List.setIfInBounds_toArray, List.set_cons_zero, List.set_cons_succ]
        refine' Reg.wpG_take (i := 53) (oi := { dst := some 98, op := Op.pick (Operand.tmp 94) (Operand.const (Value.bool true)) (Operand.tmp 97), type := 4, pos := "law.go:98", after := #[{ on := 49, ground := Ground.data }, { on := 52, ground := Ground.data }], guard := none }) (v := _) [54, 55, 56, 57, 58, 59, 60, 61, 62, 63] [] rfl rfl (by kernel_rfl) (by kernel_rfl) (by kernel_rfl) (by kernel_rfl) (by kernel_rfl) (by kernel_rfl) (by kernel_rfl) (fun _ _ _ h => h) (Or.inl ⟨by rfl, Or.inl ?hy54⟩) ?rest54
        case hy54 => (intro w' kk ss; obtain ⟨v1, v2, v3, v4⟩ := (HB.out.since (hr0.trans kk)).four; go_simp; first | done | with_reducible rfl)
        try simp only [Act.put, List.setIfInBounds_toArray, List.set_cons_zero, List.set_cons_succ]
        refine' Reg.wpG_take (i := 54) (oi := { dst := some 99, op := Op.move (Operand.tmp 98), type := 4, pos := "law.go:98", after := #[{ on := 53, ground := Ground.data }, { on := 49, ground := Ground.chain }], guard := none }) (v := _) [55, 56, 57, 58, 59, 60, 61, 62, 63] [] rfl rfl (by kernel_rfl) (by kernel_rfl) (by kernel_rfl) (by kernel_rfl) (by kernel_rfl) (by kernel_rfl) (by kernel_rfl) (fun _ _ _ h => h) (Or.inl ⟨by rfl, Or.inl ?hy55⟩) ?rest55
        case hy55 => (intro w' kk ss; obtain ⟨v1, v2, v3, v4⟩ := (HB.out.since (hr0.trans kk)).four; go_simp; first | done | with_reducible rfl)
        try simp only [Act.put, List.setIfInBounds_toArray, List.set_cons_zero, List.set_cons_succ]
        refine' Reg.wpG_take (i := 55) (oi := { dst := some 100, op := Op.fieldAddr 39 (Operand.tmp 8) 0, type := 0, pos := "law.go:98", after := #[{ on := 54, ground := Ground.guard }], guard := some (54, false) }) (v := _) [56, 57, 58, 59, 60, 61, 62, 63] [] rfl rfl (by kernel_rfl) (by kernel_rfl) (by kernel_rfl) (by kernel_rfl) (by kernel_rfl) (by kernel_rfl) (by kernel_rfl) (fun _ _ _ h => h) (Or.inl ⟨by rfl, Or.inl ?hy56⟩) ?rest56
        case hy56 => (intro w' kk ss; obtain ⟨v1, v2, v3, v4⟩ := (HB.out.since (hr0.trans kk)).four; go_simp; first | done | with_reducible rfl)
        try simp only [Act.put, List.setIfInBounds_toArray, List.set_cons_zero, List.set_cons_succ]
        refine' Reg.wpG_take (i := 56) (oi := { dst := some 101, op := Op.load 3 (Operand.tmp 100), type := 3, pos := "law.go:98", after := #[{ on := 55, ground := Ground.data }, { on := 54, ground := Ground.guard }], guard := some (54, false) }) (v := _) [57, 58, 59, 60, 61, 62, 63] [] rfl rfl (by kernel_rfl) (by kernel_rfl) (by kernel_rfl) (by kernel_rfl) (by kernel_rfl) (by kernel_rfl) (by kernel_rfl) (fun _ _ _ h => h) (Or.inl ⟨by rfl, Or.inl ?hy57⟩) ?rest57
        case hy57 => (intro w' kk ss; obtain ⟨v1, v2, v3, v4⟩ := (HB.out.since (hr0.trans kk)).four; go_simp; first | done | with_reducible rfl)
        try simp only [Act.put, List.setIfInBounds_toArray, List.set_cons_zero, List.set_cons_succ]
        refine' Reg.wpG_take (i := 57) (oi := { dst := some 102, op := Op.binOp BinOp.neq 3 (Operand.tmp 101) (Operand.const (Value.int IntKind.i64 2)) 3, type := 4, pos := "law.go:98", after := #[{ on := 56, ground := Ground.data }, { on := 54, ground := Ground.guard }], guard := some (54, false) }) (v := _) [58, 59, 60, 61, 62, 63] [] rfl rfl (by kernel_rfl) (by kernel_rfl) (by kernel_rfl) (by kernel_rfl) (by kernel_rfl) (by kernel_rfl) (by kernel_rfl) (fun _ _ _ h => h) (Or.inl ⟨by rfl, Or.inl ?hy58⟩) ?rest58
        case hy58 => (intro w' kk ss; obtain ⟨v1, v2, v3, v4⟩ := (HB.out.since (hr0.trans kk)).four; go_simp; first | done | with_reducible rfl)
        try simp only [Act.put, List.setIfInBounds_toArray, List.set_cons_zero, List.set_cons_succ]
        refine' Reg.wpG_take (i := 58) (oi := { dst := some 103, op := Op.move (Operand.tmp 102), type := 4, pos := "law.go:98", after := #[{ on := 57, ground := Ground.data }, { on := 54, ground := Ground.chain }, { on := 54, ground := Ground.guard }], guard := some (54, false) }) (v := _) [59, 60, 61, 62, 63] [] rfl rfl (by kernel_rfl) (by kernel_rfl) (by kernel_rfl) (by kernel_rfl) (by kernel_rfl) (by kernel_rfl) (by kernel_rfl) (fun _ _ _ h => h) (Or.inl ⟨by rfl, Or.inl ?hy59⟩) ?rest59
        case hy59 => (intro w' kk ss; obtain ⟨v1, v2, v3, v4⟩ := (HB.out.since (hr0.trans kk)).four; go_simp; first | done | with_reducible rfl)
        try simp only [Act.put, List.setIfInBounds_toArray, List.set_cons_zero, List.set_cons_succ]
        refine Reg.wpG_take (i := 59) (oi := { dst := some 104, op := Op.fieldAddr 39 (Operand.tmp 8) 2, type := 0, pos := "law.go:98", after := #[{ on := 58, ground := Ground.guard }], guard := some (58, true) }) (v := undef) [60, 61, 62, 63] [] rfl rfl (by kernel_rfl) (by kernel_rfl) (by kernel_rfl) (by kernel_rfl) (by kernel_rfl) (by kernel_rfl) (by kernel_rfl) (fun _ _ _ h => h) (Or.inr ⟨by rfl, rfl⟩) ?_
        try simp only [Act.put, List.setIfInBounds_toArray, List.set_cons_zero, List.set_cons_succ]
        refine Reg.wpG_take (i := 60) (oi := { dst := some 105, op := Op.load 2 (Operand.tmp 104), type := 2, pos := "law.go:98", after := #[{ on := 59, ground := Ground.data }, { on := 58, ground := Ground.guard }], guard := some (58, true) }) (v := undef) [61, 62, 63] [] rfl rfl (by kernel_rfl) (by kernel_rfl) (by kernel_rfl) (by kernel_rfl) (by kernel_rfl) (by kernel_rfl) (by kernel_rfl) (fun _ _ _ h => h) (Or.inr ⟨by rfl, rfl⟩) ?_
        try simp only [Act.put, List.setIfInBounds_toArray, List.set_cons_zero, List.set_cons_succ]
        refine Reg.wpG_take (i := 61) (oi := { dst := some 106, op := Op.binOp BinOp.neq 2 (Operand.tmp 105) (Operand.const (Value.int IntKind.i64 0)) 2, type := 4, pos := "law.go:98", after := #[{ on := 60, ground := Ground.data }, { on := 58, ground := Ground.guard }], guard := some (58, true) }) (v := undef) [62, 63] [] rfl rfl (by kernel_rfl) (by kernel_rfl) (by kernel_rfl) (by kernel_rfl) (by kernel_rfl) (by kernel_rfl) (by kernel_rfl) (fun _ _ _ h => h) (Or.inr ⟨by rfl, rfl⟩) ?_
        try simp only [Act.put, List.setIfInBounds_toArray, List.set_cons_zero, List.set_cons_succ]
        refine' Reg.wpG_take (i := 62) (oi := { dst := some 107, op := Op.pick (Operand.tmp 103) (Operand.tmp 106) (Operand.const (Value.bool false)), type := 4, pos := "law.go:98", after := #[{ on := 58, ground := Ground.data }, { on := 61, ground := Ground.data }, { on := 54, ground := Ground.guard }], guard := some (54, false) }) (v := _) [63] [] rfl rfl (by kernel_rfl) (by kernel_rfl) (by kernel_rfl) (by kernel_rfl) (by kernel_rfl) (by kernel_rfl) (by kernel_rfl) (fun _ _ _ h => h) (Or.inl ⟨by rfl, Or.inl ?hy60⟩) ?rest60
        case hy60 => (intro w' kk ss; obtain ⟨v1, v2, v3, v4⟩ := (HB.out.since (hr0.trans kk)).four; go_simp; first | done | with_reducible rfl)
        try simp only [Act.put, List.setIfInBounds_toArray, List.set_cons_zero, List.set_cons_succ]
        refine' Reg.wpG_take (i := 63) (oi := { dst := some 108, op := Op.pick (Operand.tmp 99) (Operand.const (Value.bool true)) (Operand.tmp 107), type := 4, pos := "law.go:98", after := #[{ on := 54, ground := Ground.data }, { on := 62, ground := Ground.data }], guard := none }) (v := _) [] [] rfl rfl (by kernel_rfl) (by kernel_rfl) (by kernel_rfl) (by kernel_rfl) (by kernel_rfl) (by kernel_rfl) (by kernel_rfl) (fun _ _ _ h => h) (Or.inl ⟨by rfl, Or.inl ?hy61⟩) ?rest61
        case hy61 => (intro w' kk ss; obtain ⟨v1, v2, v3, v4⟩ := (HB.out.since (hr0.trans kk)).four; go_simp; first | done | with_reducible rfl)
        try simp only [Act.put, List.setIfInBounds_toArray, List.set_cons_zero, List.set_cons_succ]
        refine Reg.wpG_done (by kernel_rfl) (fun we ke se => ?_) _
        refine NoPanic.normal ?_
        have hr0 := hr0.trans ke
        clear ke
        obtain ⟨v1, v2, v3, v4⟩ := (HB.out.since hr0).four
        go_wp2
        go_roundw
        case rel => exact ⟨k + 1, at_ + tn, by omega, by go_num, by go_num, HX.out, hS0.trans hr0⟩
        case measure => simp [intOf]; omega
      · obtain rfl : V = 0 := z8 h2
        have d12 : ((K : Int) != 2) = true := by rw [bne_iff_ne]; omega
        have hr0 : Since W0 W0.drew := Since.drew (Since.refl W0)
        refine wp_region_noPanic ?_
        refine Reg.wp_region_G (S := fun _ => True) (fun j => [].contains j) (by kernel_rfl) trivial ?_
        refine' Reg.wpG_take (i := 0) (oi := { dst := some 45, op := Op.fieldAddr 39 (Operand.tmp 8) 3, type := 0, pos := "law.go:98", after := #[], guard := none }) (v := _) [1, 3, 4, 5, 6, 7, 8, 9, 10, 11, 12, 13, 14, 15, 16, 17, 18, 19, 20, 21, 22, 23, 24, 25, 26, 27, 28, 29, 30, 31, 32, 33, 34, 35, 36, 37, 38, 39, 40, 41, 42, 43, 44, 45, 46, 47, 48, 49, 50, 51, 52, 53, 54, 55, 56, 57, 58, 59, 60, 61, 62, 63] [] rfl rfl (by kernel_rfl) (by kernel_rfl) (by kernel_rfl) (by kernel_rfl) (by kernel_rfl) (by kernel_rfl) (by kernel_rfl) (fun _ _ _ h => h) (Or.inl ⟨by rfl, Or.inl ?hy63⟩) ?rest63
        case hy63 => (intro w' kk ss; obtain ⟨v1, v2, v3, v4⟩ := (HB.out.since (hr0.trans kk)).four; go_simp; first | done | with_reducible rfl)
        try simp only [Act.put, List.setIfInBounds_toArray, List.set_cons_zero, List.set_cons_succ]
        refine' Reg.wpG_take (i := 1) (oi := { dst := some 46, op := Op.load 3 (Operand.tmp 45), type := 3, pos := "law.go:98", after := #[{ on := 0, ground := Ground.data }], guard := none }) (v := _) [3, 4, 5, 6, 7, 8, 9, 10, 11, 12, 13, 14, 15, 16, 17, 18, 19, 20, 21, 22, 23, 24, 25, 26, 27, 28, 29, 30, 31, 32, 33, 34, 35, 36, 37, 38, 39, 40, 41, 42, 43, 44, 45, 46, 47, 48, 49, 50, 51, 52, 53, 54, 55, 56, 57, 58, 59, 60, 61, 62, 63] [] rfl rfl (by kernel_rfl) (by kernel_rfl) (by kernel_rfl) (by kernel_rfl) (by kernel_rfl) (by kernel_rfl) (by kernel_rfl) (fun _ _ _ h => h) (Or.inl ⟨by rfl, Or.inl ?hy64⟩) ?rest64
        case hy64 => (intro w' kk ss; obtain ⟨v1, v2, v3, v4⟩ := (HB.out.since (hr0.trans kk)).four; go_simp; first | done | with_reducible rfl)
        try simp only [Act.put, List.setIfInBounds_toArray, List.set_cons_zero, List.set_cons_succ]
        refine' Reg.wpG_take (i := 2) (oi := { dst := some 47, op := Op.move (Operand.tmp 6), type := 3, pos := "law.go:98", after := #[], guard := none }) (v := _) [3, 4, 5, 6, 7, 8, 9, 10, 11, 12, 13, 14, 15, 16, 17, 18, 19, 20, 21, 22, 23, 24, 25, 26, 27, 28, 29, 30, 31, 32, 33, 34, 35, 36, 37, 38, 39, 40, 41, 42, 43, 44, 45, 46, 47, 48, 49, 50, 51, 52, 53, 54, 55, 56, 57, 58, 59, 60, 61, 62, 63] [] rfl rfl (by kernel_rfl) (by kernel_rfl) (by kernel_rfl) (by kernel_rfl) (by kernel_rfl) (by kernel_rfl) (by kernel_rfl) (fun _ _ _ h => h) (Or.inl ⟨by rfl, Or.inl ?hy65⟩) ?rest65
        case hy65 => (intro w' kk ss; obtain ⟨v1, v2, v3, v4⟩ := (HB.out.since (hr0.trans kk)).four; go_simp; first | done | with_reducible rfl)
        try simp only [Act.put, List.setIfInBounds_toArray, List.set_cons_zero, List.set_cons_succ]
        refine' Reg.wpG_take (i := 3) (oi := { dst := some 48, op := Op.binOp BinOp.lss 3 (Operand.tmp 46) (Operand.tmp 47) 3, type := 4, pos := "law.go:98", after := #[{ on := 1, ground := Ground.data }, { on := 2, ground := Ground.data }], guard := none }) (v := _) [4, 5, 6, 7, 8, 9, 10, 11, 12, 13, 14, 15, 16, 17, 18, 19, 20, 21, 22, 23, 24, 25, 26, 27, 28, 29, 30, 31, 32, 33, 34, 35, 36, 37, 38, 39, 40, 41, 42, 43, 44, 45, 46, 47, 48, 49, 50, 51, 52, 53, 54, 55, 56, 57, 58, 59, 60, 61, 62, 63] [] rfl rfl (by kernel_rfl) (by kernel_rfl) (by kernel_rfl) (by kernel_rfl) (by kernel_rfl) (by kernel_rfl) (by kernel_rfl) (fun _ _ _ h => h) (Or.inl ⟨by rfl, Or.inl ?hy66⟩) ?rest66
        case hy66 => (intro w' kk ss; obtain ⟨v1, v2, v3, v4⟩ := (HB.out.since (hr0.trans kk)).four; go_simp; first | done | with_reducible rfl)
        try simp only [Act.put, List.setIfInBounds_toArray, List.set_cons_zero, List.set_cons_succ]
        refine' Reg.wpG_take (i := 4) (oi := { dst := some 49, op := Op.move (Operand.tmp 48), type := 4, pos := "law.go:98", after := #[{ on := 3, ground := Ground.data }], guard := none }) (v := _) [5, 6, 7, 8, 9, 10, 11, 12, 13, 14, 15, 16, 17, 18, 19, 20, 21, 22, 23, 24, 25, 26, 27, 28, 29, 30, 31, 32, 33, 34, 35, 36, 37, 38, 39, 40, 41, 42, 43, 44, 45, 46, 47, 48, 49, 50, 51, 52, 53, 54, 55, 56, 57, 58, 59, 60, 61, 62, 63] [] rfl rfl (by kernel_rfl) (by kernel_rfl) (by kernel_rfl) (by kernel_rfl) (by kernel_rfl) (by kernel_rfl) (by kernel_rfl) (fun _ _ _ h => h) (Or.inl ⟨by rfl, Or.inl ?hy67⟩) ?rest67
        case hy67 => (intro w' kk ss; obtain ⟨v1, v2, v3, v4⟩ := (HB.out.since (hr0.trans kk)).four; go_simp; first | done | with_reducible rfl)
        try simp only [Act.put, List.setIfInBounds_toArray, List.set_cons_zero, List.set_cons_succ]
        refine' Reg.wpG_take (i := 5) (oi := { dst := some 50, op := Op.fieldAddr 39 (Operand.tmp 8) 3, type := 0, pos := "law.go:98", after := #[{ on := 4, ground := Ground.guard }], guard := some (4, false) }) (v := _) [6, 10, 13, 14, 15, 16, 17, 18, 19, 20, 21, 22, 23, 24, 25, 26, 27, 28, 29, 30, 31, 32, 33, 34, 35, 36, 37, 38, 39, 40, 41, 42, 43, 44, 45, 46, 47, 48, 49, 50, 51, 52, 53, 54, 55, 56, 57, 58, 59, 60, 61, 62, 63] [] rfl rfl (by kernel_rfl) (by kernel_rfl) (by kernel_rfl) (by kernel_rfl) (by kernel_rfl) (by kernel_rfl) (by kernel_rfl) (fun _ _ _ h => h) (Or.inl ⟨by rfl, Or.inl ?hy68⟩) ?rest68
        case hy68 => (intro w' kk ss; obtain ⟨v1, v2, v3, v4⟩ := (HB.out.since (hr0.trans kk)).four; go_simp; first | done | with_reducible rfl)
        try simp only [Act.put, List.setIfInBounds_toArray, List.set_cons_zero, List.set_cons_succ]
        refine' Reg.wpG_take (i := 6) (oi := { dst := some 51, op := Op.load 3 (Operand.tmp 50), type := 3, pos := "law.go:98", after := #[{ on := 5, ground := Ground.data }, { on := 4, ground := Ground.guard }], guard := some (4, false) }) (v := _) [10, 13, 14, 15, 16, 17, 18, 19, 20, 21, 22, 23, 24, 25, 26, 27, 28, 29, 30, 31, 32, 33, 34, 35, 36, 37, 38, 39, 40, 41, 42, 43, 44, 45, 46, 47, 48, 49, 50, 51, 52, 53, 54, 55, 56, 57, 58, 59, 60, 61, 62, 63] [] rfl rfl (by kernel_rfl) (by kernel_rfl) (by kernel_rfl) (by kernel_rfl) (by kernel_rfl) (by kernel_rfl) (by kernel_rfl) (fun _ _ _ h => h) (Or.inl ⟨by rfl, Or.inl ?hy69⟩) ?rest69
        case hy69 => (intro w' kk ss; obtain ⟨v1, v2, v3, v4⟩ := (HB.out.since (hr0.trans kk)).four; go_simp; first | done | with_reducible rfl)
        try simp only [Act.put, List.setIfInBounds_toArray, List.set_cons_zero, List.set_cons_succ]
        refine' Reg.wpG_take (i := 7) (oi := { dst := some 52, op := Op.fieldAddr 39 (Operand.tmp 8) 1, type := 0, pos := "law.go:98", after := #[{ on := 4, ground := Ground.guard }], guard := some (4, false) }) (v := _) [8, 9, 10, 13, 14, 15, 16, 17, 18, 19, 20, 21, 22, 23, 24, 25, 26, 27, 28, 29, 30, 31, 32, 33, 34, 35, 36, 37, 38, 39, 40, 41, 42, 43, 44, 45, 46, 47, 48, 49, 50, 51, 52, 53, 54, 55, 56, 57, 58, 59, 60, 61, 62, 63] [] rfl rfl (by kernel_rfl) (by kernel_rfl) (by kernel_rfl) (by kernel_rfl) (by kernel_rfl) (by kernel_rfl) (by kernel_rfl) (fun _ _ _ h => h) (Or.inl ⟨by rfl, Or.inl ?hy70⟩) ?rest70
        case hy70 => (intro w' kk ss; obtain ⟨v1, v2, v3, v4⟩ := (HB.out.since (hr0.trans kk)).four; go_simp; first | done | with_reducible rfl)
        try simp only [Act.put, List.setIfInBounds_toArray, List.set_cons_zero, List.set_cons_succ]
        refine' Reg.wpG_take (i := 8) (oi := { dst := some 53, op := Op.load 9 (Operand.tmp 52), type := 9, pos := "law.go:98", after := #[{ on := 7, ground := Ground.data }, { on := 4, ground := Ground.guard }], guard := some (4, false) }) (v := _) [9, 10, 13, 14, 15, 16, 17, 18, 19, 20, 21, 22, 23, 24, 25, 26, 27, 28, 29, 30, 31, 32, 33, 34, 35, 36, 37, 38, 39, 40, 41, 42, 43, 44, 45, 46, 47, 48, 49, 50, 51, 52, 53, 54, 55, 56, 57, 58, 59, 60, 61, 62, 63] [] rfl rfl (by kernel_rfl) (by kernel_rfl) (by kernel_rfl) (by kernel_rfl) (by kernel_rfl) (by kernel_rfl) (by kernel_rfl) (fun _ _ _ h => h) (Or.inl ⟨by rfl, Or.inl ?hy71⟩) ?rest71
        case hy71 => (intro w' kk ss; obtain ⟨v1, v2, v3, v4⟩ := (HB.out.since (hr0.trans kk)).four; go_simp; first | done | with_reducible rfl)
        try simp only [Act.put, List.setIfInBounds_toArray, List.set_cons_zero, List.set_cons_succ]
        refine' Reg.wpG_take (i := 9) (oi := { dst := some 54, op := Op.call { callee := Callee.builtin Builtin.len, args := #[Operand.tmp 53], argTypes := #[9] }, type := 3, pos := "law.go:98", after := #[{ on := 8, ground := Ground.data }, { on := 4, ground := Ground.guard }], guard := some (4, false) }) (v := _) [10, 13, 14, 15, 16, 17, 18, 19, 20, 21, 22, 23, 24, 25, 26, 27, 28, 29, 30, 31, 32, 33, 34, 35, 36, 37, 38, 39, 40, 41, 42, 43, 44, 45, 46, 47, 48, 49, 50, 51, 52, 53, 54, 55, 56, 57, 58, 59, 60, 61, 62, 63] [] rfl rfl (by kernel_rfl) (by kernel_rfl) (by kernel_rfl) (by kernel_rfl) (by kernel_rfl) (by kernel_rfl) (by kernel_rfl) (fun _ _ _ h => h) (Or.inl ⟨by rfl, Or.inl ?hy72⟩) ?rest72
        case hy72 => (intro w' kk ss; obtain ⟨v1, v2, v3, v4⟩ := (HB.out.since (hr0.trans kk)).four; go_simp; first | done | with_reducible rfl)
        try simp only [Act.put, List.setIfInBounds_toArray, List.set_cons_zero, List.set_cons_succ]
        refine' Reg.wpG_take (i := 10) (oi := { dst := some 55, op := Op.binOp BinOp.add 3 (Operand.tmp 51) (Operand.tmp 54) 3, type := 3, pos := "law.go:98", after := #[{ on := 6, ground := Ground.data }, { on := 9, ground := Ground.data }, { on := 4, ground := Ground.guard }], guard := some (4, false) }) (v := _) [13, 14, 15, 16, 17, 18, 19, 20, 21, 22, 23, 24, 25, 26, 27, 28, 29, 30, 31, 32, 33, 34, 35, 36, 37, 38, 39, 40, 41, 42, 43, 44, 45, 46, 47, 48, 49, 50, 51, 52, 53, 54, 55, 56, 57, 58, 59, 60, 61, 62, 63] [] rfl rfl (by kernel_rfl) (by kernel_rfl) (by kernel_rfl) (by kernel_rfl) (by kernel_rfl) (by kernel_rfl) (by kernel_rfl) (fun _ _ _ h => h) (Or.inl ⟨by rfl, Or.inl ?hy73⟩) ?rest73
        case hy73 => (intro w' kk ss; obtain ⟨v1, v2, v3, v4⟩ := (HB.out.since (hr0.trans kk)).four; go_simp; first | done | with_reducible rfl)
        try simp only [Act.put, List.setIfInBounds_toArray, List.set_cons_zero, List.set_cons_succ]
        refine' Reg.wpG_take (i := 11) (oi := { dst := some 56, op := Op.move (Operand.tmp 0), type := 9, pos := "law.go:98", after := #[{ on := 4, ground := Ground.guard }], guard := some (4, false) }) (v := _) [12, 13, 14, 15, 16, 17, 18, 19, 20, 21, 22, 23, 24, 25, 26, 27, 28, 29, 30, 31, 32, 33, 34, 35, 36, 37, 38, 39, 40, 41, 42, 43, 44, 45, 46, 47, 48, 49, 50, 51, 52, 53, 54, 55, 56, 57, 58, 59, 60, 61, 62, 63] [] rfl rfl (by kernel_rfl) (by kernel_rfl) (by kernel_rfl) (by kernel_rfl) (by kernel_rfl) (by kernel_rfl) (by kernel_rfl) (fun _ _ _ h => h) (Or.inl ⟨by rfl, Or.inl ?hy74⟩) ?rest74
        case hy74 => (intro w' kk ss; obtain ⟨v1, v2, v3, v4⟩ := (HB.out.since (hr0.trans kk)).four; go_simp; first | done | with_reducible rfl)
        try simp only [Act.put, List.setIfInBounds_toArray, List.set_cons_zero, List.set_cons_succ]
        refine' Reg.wpG_take (i := 12) (oi := { dst := some 57, op := Op.call { callee := Callee.builtin Builtin.len, args := #[Operand.tmp 56], argTypes := #[9] }, type := 3, pos := "law.go:98", after := #[{ on := 11, ground := Ground.data }, { on := 4, ground := Ground.guard }], guard := some (4, false) }) (v := _) [13, 14, 15, 16, 17, 18, 19, 20, 21, 22, 23, 24, 25, 26, 27, 28, 29, 30, 31, 32, 33, 34, 35, 36, 37, 38, 39, 40, 41, 42, 43, 44, 45, 46, 47, 48, 49, 50, 51, 52, 53, 54, 55, 56, 57, 58, 59, 60, 61, 62, 63] [] rfl rfl (by kernel_rfl) (by kernel_rfl) (by kernel_rfl) (by kernel_rfl) (by kernel_rfl) (by kernel_rfl) (by kernel_rfl) (fun _ _ _ h => h) (Or.inl ⟨by rfl, Or.inl ?hy75⟩) ?rest75
        case hy75 => (intro w' kk ss; obtain ⟨v1, v2, v3, v4⟩ := (HB.out.since (hr0.trans kk)).four; go_simp; first | done | with_reducible rfl)
        try simp only [Act.put, List.setIfInBounds_toArray, List.set_cons_zero, List.set_cons_succ]
        refine' Reg.wpG_take (i := 13) (oi := { dst := some 58, op := Op.binOp BinOp.gtr 3 (Operand.tmp 55) (Operand.tmp 57) 3, type := 4, pos := "law.go:98", after := #[{ on := 10, ground := Ground.data }, { on := 12, ground := Ground.data }, { on := 4, ground := Ground.guard }], guard := some (4, false) }) (v := _) [14, 15, 16, 17, 18, 19, 20, 21, 22, 23, 24, 25, 26, 27, 28, 29, 30, 31, 32, 33, 34, 35, 36, 37, 38, 39, 40, 41, 42, 43, 44, 45, 46, 47, 48, 49, 50, 51, 52, 53, 54, 55, 56, 57, 58, 59, 60, 61, 62, 63] [] rfl rfl (by kernel_rfl) (by kernel_rfl) (by kernel_rfl) (by kernel_rfl) (by kernel_rfl) (by kernel_rfl) (by kernel_rfl) (fun _ _ _ h => h) (Or.inl ⟨by rfl, Or.inl ?hy76⟩) ?rest76
        case hy76 => (intro w' kk ss; obtain ⟨v1, v2, v3, v4⟩ := (HB.out.since (hr0.trans kk)).four; go_simp; first | done | with_reducible rfl)
        try simp only [Act.put, List.setIfInBounds_toArray, List.set_cons_zero, List.set_cons_succ]
        refine' Reg.wpG_take (i := 14) (oi := { dst := some 59, op := Op.pick (Operand.tmp 49) (Operand.const (Value.bool true)) (Operand.tmp 58), type := 4, pos := "law.go:98", after := #[{ on := 4, ground := Ground.data }, { on := 13, ground := Ground.data }], guard := none }) (v := _) [15, 16, 17, 18, 19, 20, 21, 22, 23, 24, 25, 26, 27, 28, 29, 30, 31, 32, 33, 34, 35, 36, 37, 38, 39, 40, 41, 42, 43, 44, 45, 46, 47, 48, 49, 50, 51, 52, 53, 54, 55, 56, 57, 58, 59, 60, 61, 62, 63] [] rfl rfl (by kernel_rfl) (by kernel_rfl) (by kernel_rfl) (by kernel_rfl) (by kernel_rfl) (by kernel_rfl) (by kernel_rfl) (fun _ _ _ h => h) (Or.inl ⟨by rfl, Or.inl ?hy77⟩) ?rest77
        case hy77 => (intro w' kk ss; obtain ⟨v1, v2, v3, v4⟩ := (HB.out.since (hr0.trans kk)).four; go_simp; first | done | with_reducible rfl)
        try simp only [Act.put, List.setIfInBounds_toArray, List.set_cons_zero, List.set_cons_succ]
        refine' Reg.wpG_take (i := 15) (oi := { dst := some 60, op := Op.move (Operand.tmp 59), type := 4, pos := "law.go:98", after := #[{ on := 14, ground := Ground.data }, { on := 4, ground := Ground.chain }], guard := none }) (v := _) [16, 17, 18, 19, 20, 21, 22, 23, 24, 25, 26, 27, 28, 29, 30, 31, 32, 33, 34, 35, 36, 37, 38, 39, 40, 41, 42, 43, 44, 45, 46, 47, 48, 49, 50, 51, 52, 53, 54, 55, 56, 57, 58, 59, 60, 61, 62, 63] [] rfl rfl (by kernel_rfl) (by kernel_rfl) (by kernel_rfl) (by kernel_rfl) (by kernel_rfl) (by kernel_rfl) (by kernel_rfl) (fun _ _ _ h => h) (Or.inl ⟨by rfl, Or.inl ?hy78⟩) ?rest78
        case hy78 => (intro w' kk ss; obtain ⟨v1, v2, v3, v4⟩ := (HB.out.since (hr0.trans kk)).four; go_simp; first | done | with_reducible rfl)
        try simp only [Act.put, List.setIfInBounds_toArray, List.set_cons_zero, List.set_cons_succ]
        refine' Reg.wpG_take (i := 16) (oi := { dst := some 61, op := Op.fieldAddr 39 (Operand.tmp 8) 1, type := 0, pos := "law.go:98", after := #[{ on := 15, ground := Ground.guard }], guard := some (15, false) }) (v := _) [17, 18, 19, 20, 21, 22, 23, 24, 25, 26, 27, 28, 29, 30, 31, 32, 33, 34, 35, 36, 37, 38, 39, 40, 41, 42, 43, 44, 45, 46, 47, 48, 49, 50, 51, 52, 53, 54, 55, 56, 57, 58, 59, 60, 61, 62, 63] [] rfl rfl (by kernel_rfl) (by kernel_rfl) (by kernel_rfl) (by kernel_rfl) (by kernel_rfl) (by kernel_rfl) (by kernel_rfl) (fun _ _ _ h => h) (Or.inl ⟨by rfl, Or.inl ?hy79⟩) ?rest79
        case hy79 => (intro w' kk ss; obtain ⟨v1, v2, v3, v4⟩ := (HB.out.since (hr0.trans kk)).four; go_simp; first | done | with_reducible rfl)
        try simp only [Act.put, List.setIfInBounds_toArray, List.set_cons_zero, List.set_cons_succ]
        refine' Reg.wpG_take (i := 17) (oi := { dst := some 62, op := Op.load 9 (Operand.tmp 61), type := 9, pos := "law.go:98", after := #[{ on := 16, ground := Ground.data }, { on := 15, ground := Ground.guard }], guard := some (15, false) }) (v := _) [18, 19, 20, 21, 22, 23, 24, 25, 26, 27, 28, 29, 30, 31, 32, 33, 34, 35, 36, 37, 38, 39, 40, 41, 42, 43, 44, 45, 46, 47, 48, 49, 50, 51, 52, 53, 54, 55, 56, 57, 58, 59, 60, 61, 62, 63] [] rfl rfl (by kernel_rfl) (by kernel_rfl) (by kernel_rfl) (by kernel_rfl) (by kernel_rfl) (by kernel_rfl) (by kernel_rfl) (fun _ _ _ h => h) (Or.inl ⟨by rfl, Or.inl ?hy80⟩) ?rest80
        case hy80 => (intro w' kk ss; obtain ⟨v1, v2, v3, v4⟩ := (HB.out.since (hr0.trans kk)).four; go_simp; first | done | with_reducible rfl)
        try simp only [Act.put, List.setIfInBounds_toArray, List.set_cons_zero, List.set_cons_succ]
        refine' Reg.wpG_take (i := 18) (oi := { dst := some 63, op := Op.binOp BinOp.eql 9 (Operand.tmp 62) (Operand.const (Value.string { data := #[] })) 9, type := 4, pos := "law.go:98", after := #[{ on := 17, ground := Ground.data }, { on := 15, ground := Ground.guard }], guard := some (15, false) }) (v := _) [19, 20, 21, 22, 23, 24, 25, 26, 27, 28, 29, 30, 31, 32, 33, 34, 35, 36, 37, 38, 39, 40, 41, 42, 43, 44, 45, 46, 47, 48, 49, 50, 51, 52, 53, 54, 55, 56, 57, 58, 59, 60, 61, 62, 63] [] rfl rfl (by kernel_rfl) (by kernel_rfl) (by kernel_rfl) (by kernel_rfl) (by kernel_rfl) (by kernel_rfl) (by kernel_rfl) (fun _ _ _ h => h) (Or.inl ⟨by rfl, Or.inl ?hy81⟩) ?rest81
        case hy81 => (intro w' kk ss; obtain ⟨v1, v2, v3, v4⟩ := (HB.out.since (hr0.trans kk)).four; go_simp; first | done | with_reducible rfl)
        try simp only [Act.put, List.setIfInBounds_toArray, List.set_cons_zero, List.set_cons_succ]
        refine' Reg.wpG_take (i := 19) (oi := { dst := some 64, op := Op.pick (Operand.tmp 60) (Operand.const (Value.bool true)) (Operand.tmp 63), type := 4, pos := "law.go:98", after := #[{ on := 15, ground := Ground.data }, { on := 18, ground := Ground.data }], guard := none }) (v := _) [20, 21, 22, 23, 24, 25, 26, 27, 28, 29, 30, 31, 32, 33, 34, 35, 36, 37, 38, 39, 40, 41, 42, 43, 44, 45, 46, 47, 48, 49, 50, 51, 52, 53, 54, 55, 56, 57, 58, 59, 60, 61, 62, 63] [] rfl rfl (by kernel_rfl) (by kernel_rfl) (by kernel_rfl) (by kernel_rfl) (by kernel_rfl) (by kernel_rfl) (by kernel_rfl) (fun _ _ _ h => h) (Or.inl ⟨by rfl, Or.inl ?hy82⟩) ?rest82
        case hy82 => (intro w' kk ss; obtain ⟨v1, v2, v3, v4⟩ := (HB.out.since (hr0.trans kk)).four; go_simp; first | done | with_reducible rfl)
        try simp only [Act.put, List.setIfInBounds_toArray, List.set_cons_zero, List.set_cons_succ]
        refine' Reg.wpG_take (i := 20) (oi := { dst := some 65, op := Op.move (Operand.tmp 64), type := 4, pos := "law.go:98", after := #[{ on := 19, ground := Ground.data }, { on := 15, ground := Ground.chain }], guard := none }) (v := _) [21, 22, 23, 24, 25, 26, 27, 28, 29, 30, 31, 32, 33, 34, 35, 36, 37, 38, 39, 40, 41, 42, 43, 44, 45, 46, 47, 48, 49, 50, 51, 52, 53, 54, 55, 56, 57, 58, 59, 60, 61, 62, 63] [] rfl rfl (by kernel_rfl) (by kernel_rfl) (by kernel_rfl) (by kernel_rfl) (by kernel_rfl) (by kernel_rfl) (by kernel_rfl) (fun _ _ _ h => h) (Or.inl ⟨by rfl, Or.inl ?hy83⟩) ?rest83
        case hy83 => (intro w' kk ss; obtain ⟨v1, v2, v3, v4⟩ := (HB.out.since (hr0.trans kk)).four; go_simp; first | done | with_reducible rfl)
        try simp only [Act.put, List.setIfInBounds_toArray, List.set_cons_zero, List.set_cons_succ]
        refine' Reg.wpG_take (i := 21) (oi := { dst := some 66, op := Op.move (Operand.tmp 0), type := 9, pos := "law.go:98", after := #[{ on := 20, ground := Ground.guard }], guard := some (20, false) }) (v := _) [30, 33, 34, 35, 36, 37, 38, 39, 40, 41, 42, 43, 44, 45, 46, 47, 48, 49, 50, 51, 52, 53, 54, 55, 56, 57, 58, 59, 60, 61, 62, 63] [] rfl rfl (by kernel_rfl) (by kernel_rfl) (by kernel_rfl) (by kernel_rfl) (by kernel_rfl) (by kernel_rfl) (by kernel_rfl) (fun _ _ _ h => h) (Or.inl ⟨by rfl, Or.inl ?hy84⟩) ?rest84
        case hy84 => (intro w' kk ss; obtain ⟨v1, v2, v3, v4⟩ := (HB.out.since (hr0.trans kk)).four; go_simp; first | done | with_reducible rfl)
        try simp only [Act.put, List.setIfInBounds_toArray, List.set_cons_zero, List.set_cons_succ]
        refine' Reg.wpG_take (i := 22) (oi := { dst := some 67, op := Op.fieldAddr 39 (Operand.tmp 8) 3, type := 0, pos := "law.go:98", after := #[{ on := 20, ground := Ground.guard }], guard := some (20, false) }) (v := _) [23, 30, 33, 34, 35, 36, 37, 38, 39, 40, 41, 42, 43, 44, 45, 46, 47, 48, 49, 50, 51, 52, 53, 54, 55, 56, 57, 58, 59, 60, 61, 62, 63] [] rfl rfl (by kernel_rfl) (by kernel_rfl) (by kernel_rfl) (by kernel_rfl) (by kernel_rfl) (by kernel_rfl) (by kernel_rfl) (fun _ _ _ h => h) (Or.inl ⟨by rfl, Or.inl ?hy85⟩) ?rest85
        case hy85 => (intro w' kk ss; obtain ⟨v1, v2, v3, v4⟩ := (HB.out.since (hr0.trans kk)).four; go_simp; first | done | with_reducible rfl)
        try simp only [Act.put, List.setIfInBounds_toArray, List.set_cons_zero, List.set_cons_succ]
        refine' Reg.wpG_take (i := 23) (oi := { dst := some 68, op := Op.load 3 (Operand.tmp 67), type := 3, pos := "law.go:98", after := #[{ on := 22, ground := Ground.data }, { on := 20, ground := Ground.guard }], guard := some (20, false) }) (v := _) [30, 33, 34, 35, 36, 37, 38, 39, 40, 41, 42, 43, 44, 45, 46, 47, 48, 49, 50, 51, 52, 53, 54, 55, 56, 57, 58, 59, 60, 61, 62, 63] [] rfl rfl (by kernel_rfl) (by kernel_rfl) (by kernel_rfl) (by kernel_rfl) (by kernel_rfl) (by kernel_rfl) (by kernel_rfl) (fun _ _ _ h => h) (Or.inl ⟨by rfl, Or.inl ?hy86⟩) ?rest86
        case hy86 => (intro w' kk ss; obtain ⟨v1, v2, v3, v4⟩ := (HB.out.since (hr0.trans kk)).four; go_simp; first | done | with_reducible rfl)
        try simp only [Act.put, List.setIfInBounds_toArray, List.set_cons_zero, List.set_cons_succ]
        refine' Reg.wpG_take (i := 24) (oi := { dst := some 69, op := Op.fieldAddr 39 (Operand.tmp 8) 3, type := 0, pos := "law.go:98", after := #[{ on := 20, ground := Ground.guard }], guard := some (20, false) }) (v := _) [25, 29, 30, 33, 34, 35, 36, 37, 38, 39, 40, 41, 42, 43, 44, 45, 46, 47, 48, 49, 50, 51, 52, 53, 54, 55, 56, 57, 58, 59, 60, 61, 62, 63] [] rfl rfl (by kernel_rfl) (by kernel_rfl) (by kernel_rfl) (by kernel_rfl) (by kernel_rfl) (by kernel_rfl) (by kernel_rfl) (fun _ _ _ h => h) (Or.inl ⟨by rfl, Or.inl ?hy87⟩) ?rest87
        case hy87 => (intro w' kk ss; obtain ⟨v1, v2, v3, v4⟩ := (HB.out.since (hr0.trans kk)).four; go_simp; first | done | with_reducible rfl)
        try simp only [Act.put, List.setIfInBounds_toArray, List.set_cons_zero, List.set_cons_succ]
        refine' Reg.wpG_take (i := 25) (oi := { dst := some 70, op := Op.load 3 (Operand.tmp 69), type := 3, pos := "law.go:98", after := #[{ on := 24, ground := Ground.data }, { on := 20, ground := Ground.guard }], guard := some (20, false) }) (v := _) [29, 30, 33, 34, 35, 36, 37, 38, 39, 40, 41, 42, 43, 44, 45, 46, 47, 48, 49, 50, 51, 52, 53, 54, 55, 56, 57, 58, 59, 60, 61, 62, 63] [] rfl rfl (by kernel_rfl) (by kernel_rfl) (by kernel_rfl) (by kernel_rfl) (by kernel_rfl) (by kernel_rfl) (by kernel_rfl) (fun _ _ _ h => h) (Or.inl ⟨by rfl, Or.inl ?hy88⟩) ?rest88
        case hy88 => (intro w' kk ss; obtain ⟨v1, v2, v3, v4⟩ := (HB.out.since (hr0.trans kk)).four; go_simp; first | done | with_reducible rfl)
        try simp only [Act.put, List.setIfInBounds_toArray, List.set_cons_zero, List.set_cons_succ]
        refine' Reg.wpG_take (i := 26) (oi := { dst := some 71, op := Op.fieldAddr 39 (Operand.tmp 8) 1, type := 0, pos := "law.go:98", after := #[{ on := 20, ground := Ground.guard }], guard := some (20, false) }) (v := _) [27, 28, 29, 30, 33, 34, 35, 36, 37, 38, 39, 40, 41, 42, 43, 44, 45, 46, 47, 48, 49, 50, 51, 52, 53, 54, 55, 56, 57, 58, 59, 60, 61, 62, 63] [] rfl rfl (by kernel_rfl) (by kernel_rfl) (by kernel_rfl) (by kernel_rfl) (by kernel_rfl) (by kernel_rfl) (by kernel_rfl) (fun _ _ _ h => h) (Or.inl ⟨by rfl, Or.inl ?hy89⟩) ?rest89
        case hy89 => (intro w' kk ss; obtain ⟨v1, v2, v3, v4⟩ := (HB.out.since (hr0.trans kk)).four; go_simp; first | done | with_reducible rfl)
        try simp only [Act.put, List.setIfInBounds_toArray, List.set_cons_zero, List.set_cons_succ]
        refine' Reg.wpG_take (i := 27) (oi := { dst := some 72, op := Op.load 9 (Operand.tmp 71), type := 9, pos := "law.go:98", after := #[{ on := 26, ground := Ground.data }, { on := 20, ground := Ground.guard }], guard := some (20, false) }) (v := _) [28, 29, 30, 33, 34, 35, 36, 37, 38, 39, 40, 41, 42, 43, 44, 45, 46, 47, 48, 49, 50, 51, 52, 53, 54, 55, 56, 57, 58, 59, 60, 61, 62, 63] [] rfl rfl (by kernel_rfl) (by kernel_rfl) (by kernel_rfl) (by kernel_rfl) (by kernel_rfl) (by kernel_rfl) (by kernel_rfl) (fun _ _ _ h => h) (Or.inl ⟨by rfl, Or.inl ?hy90⟩) ?rest90
        case hy90 => (intro w' kk ss; obtain ⟨v1, v2, v3, v4⟩ := (HB.out.since (hr0.trans kk)).four; go_simp; first | done | with_reducible rfl)
        try simp only [Act.put, List.setIfInBounds_toArray, List.set_cons_zero, List.set_cons_succ]
        refine' Reg.wpG_take (i := 28) (oi := { dst := some 73, op := Op.call { callee := Callee.builtin Builtin.len, args := #[Operand.tmp 72], argTypes := #[9] }, type := 3, pos := "law.go:98", after := #[{ on := 27, ground := Ground.data }, { on := 20, ground := Ground.guard }], guard := some (20, false) }) (v := _) [29, 30, 33, 34, 35, 36, 37, 38, 39, 40, 41, 42, 43, 44, 45, 46, 47, 48, 49, 50, 51, 52, 53, 54, 55, 56, 57, 58, 59, 60, 61, 62, 63] [] rfl rfl (by kernel_rfl) (by kernel_rfl) (by kernel_rfl) (by kernel_rfl) (by kernel_rfl) (by kernel_rfl) (by kernel_rfl) (fun _ _ _ h => h) (Or.inl ⟨by rfl, Or.inl ?hy91⟩) ?rest91
        case hy91 => (intro w' kk ss; obtain ⟨v1, v2, v3, v4⟩ := (HB.out.since (hr0.trans kk)).four; go_simp; first | done | with_reducible rfl)
        try simp only [Act.put, List.setIfInBounds_toArray, List.set_cons_zero, List.set_cons_succ]
        refine' Reg.wpG_take (i := 29) (oi := { dst := some 74, op := Op.binOp BinOp.add 3 (Operand.tmp 70) (Operand.tmp 73) 3, type := 3, pos := "law.go:98", after := #[{ on := 25, ground := Ground.data }, { on := 28, ground := Ground.data }, { on := 20, ground := Ground.guard }], guard := some (20, false) }) (v := _) [30, 33, 34, 35, 36, 37, 38, 39, 40, 41, 42, 43, 44, 45, 46, 47, 48, 49, 50, 51, 52, 53, 54, 55, 56, 57, 58, 59, 60, 61, 62, 63] [] rfl rfl (by kernel_rfl) (by kernel_rfl) (by kernel_rfl) (by kernel_rfl) (by kernel_rfl) (by kernel_rfl) (by kernel_rfl) (fun _ _ _ h => h) (Or.inl ⟨by rfl, Or.inl ?hy92⟩) ?rest92
        case hy92 => (intro w' kk ss; obtain ⟨v1, v2, v3, v4⟩ := (HB.out.since (hr0.trans kk)).four; go_simp; first | done | with_reducible rfl)
        try simp only [Act.put, List.setIfInBounds_toArray, List.set_cons_zero, List.set_cons_succ]
        refine' Reg.wpG_take (i := 30) (oi := { dst := some 75, op := Op.slice 9 (Operand.tmp 66) (some (Operand.tmp 68)) (some (Operand.tmp 74)) none, type := 9, pos := "law.go:98", after := #[{ on := 21, ground := Ground.data }, { on := 23, ground := Ground.data }, { on := 29, ground := Ground.data }, { on := 20, ground := Ground.guard }], guard := some (20, false) }) (v := _) [33, 34, 35, 36, 37, 38, 39, 40, 41, 42, 43, 44, 45, 46, 47, 48, 49, 50, 51, 52, 53, 54, 55, 56, 57, 58, 59, 60, 61, 62, 63] [] rfl rfl (by kernel_rfl) (by kernel_rfl) (by kernel_rfl) (by kernel_rfl) (by kernel_rfl) (by kernel_rfl) (by kernel_rfl) (fun _ _ _ h => h) (Or.inl ⟨by rfl, Or.inl ?hy93⟩) ?rest93
        case hy93 => (intro w' kk ss; obtain ⟨v1, v2, v3, v4⟩ := (HB.out.since (hr0.trans kk)).four; go_simp; first | done | with_reducible rfl)
        try simp only [Act.put, List.setIfInBounds_toArray, List.set_cons_zero, List.set_cons_succ]
        refine' Reg.wpG_take (i := 31) (oi := { dst := some 76, op := Op.fieldAddr 39 (Operand.tmp 8) 1, type := 0, pos := "law.go:98", after := #[{ on := 20, ground := Ground.guard }], guard := some (20, false) }) (v := _) [32, 33, 34, 35, 36, 37, 38, 39, 40, 41, 42, 43, 44, 45, 46, 47, 48, 49, 50, 51, 52, 53, 54, 55, 56, 57, 58, 59, 60, 61, 62, 63] [] rfl rfl (by kernel_rfl) (by kernel_rfl) (by kernel_rfl) (by kernel_rfl) (by kernel_rfl) (by kernel_rfl) (by kernel_rfl) (fun _ _ _ h => h) (Or.inl ⟨by rfl, Or.inl ?hy94⟩) ?rest94
        case hy94 => (intro w' kk ss; obtain ⟨v1, v2, v3, v4⟩ := (HB.out.since (hr0.trans kk)).four; go_simp; first | done | with_reducible rfl)
        try simp only [Act.put, List.setIfInBounds_toArray, List.set_cons_zero, List.set_cons_succ]
        refine' Reg.wpG_take (i := 32) (oi := { dst := some 77, op := Op.load 9 (Operand.tmp 76), type := 9, pos := "law.go:98", after := #[{ on := 31, ground := Ground.data }, { on := 20, ground := Ground.guard }], guard := some (20, false) }) (v := _) [33, 34, 35, 36, 37, 38, 39, 40, 41, 42, 43, 44, 45, 46, 47, 48, 49, 50, 51, 52, 53, 54, 55, 56, 57, 58, 59, 60, 61, 62, 63] [] rfl rfl (by kernel_rfl) (by kernel_rfl) (by kernel_rfl) (by kernel_rfl) (by kernel_rfl) (by kernel_rfl) (by kernel_rfl) (fun _ _ _ h => h) (Or.inl ⟨by rfl, Or.inl ?hy95⟩) ?rest95
        case hy95 => (intro w' kk ss; obtain ⟨v1, v2, v3, v4⟩ := (HB.out.since (hr0.trans kk)).four; go_simp; first | done | with_reducible rfl)
        try simp only [Act.put, List.setIfInBounds_toArray, List.set_cons_zero, List.set_cons_succ]
        refine' Reg.wpG_take (i := 33) (oi := { dst := some 78, op := Op.binOp BinOp.neq 9 (Operand.tmp 75) (Operand.tmp 77) 9, type := 4, pos := "law.go:98", after := #[{ on := 30, ground := Ground.data }, { on := 32, ground := Ground.data }, { on := 20, ground := Ground.guard }], guard := some (20, false) }) (v := _) [34, 35, 36, 37, 38, 39, 40, 41, 42, 43, 44, 45, 46, 47, 48, 49, 50, 51, 52, 53, 54, 55, 56, 57, 58, 59, 60, 61, 62, 63] [] rfl rfl (by kernel_rfl) (by kernel_rfl) (by kernel_rfl) (by kernel_rfl) (by kernel_rfl) (by kernel_rfl) (by kernel_rfl) (fun _ _ _ h => h) (Or.inl ⟨by rfl, Or.inl ?hy96⟩) ?rest96
        case hy96 => (intro w' kk ss; obtain ⟨v1, v2, v3, v4⟩ := (HB.out.since (hr0.trans kk)).four; go_simp; first | done | with_reducible rfl)
        try simp only [Act.put, List.setIfInBounds_toArray, List.set_cons_zero, List.set_cons_succ]
        refine' Reg.wpG_take (i := 34) (oi := { dst := some 79, op := Op.pick (Operand.tmp 65) (Operand.const (Value.bool true)) (Operand.tmp 78), type := 4, pos := "law.go:98", after := #[{ on := 20, ground := Ground.data }, { on := 33, ground := Ground.data }], guard := none }) (v := _) [35, 36, 37, 38, 39, 40, 41, 42, 43, 44, 45, 46, 47, 48, 49, 50, 51, 52, 53, 54, 55, 56, 57, 58, 59, 60, 61, 62, 63] [] rfl rfl (by kernel_rfl) (by kernel_rfl) (by kernel_rfl) (by kernel_rfl) (by kernel_rfl) (by kernel_rfl) (by kernel_rfl) (fun _ _ _ h => h) (Or.inl ⟨by rfl, Or.inl ?hy97⟩) ?rest97
        case hy97 => (intro w' kk ss; obtain ⟨v1, v2, v3, v4⟩ := (HB.out.since (hr0.trans kk)).four; go_simp; first | done | with_reducible rfl)
        try simp only [Act.put, List.setIfInBounds_toArray, List.set_cons_zero, List.set_cons_succ]
        refine' Reg.wpG_take (i := 35) (oi := { dst := some 80, op := Op.move (Operand.tmp 79), type := 4, pos := "law.go:98", after := #[{ on := 34, ground := Ground.data }, { on := 20, ground := Ground.chain }], guard := none }) (v := _) [36, 37, 38, 39, 40, 41, 42, 43, 44, 45, 46, 47, 48, 49, 50, 51, 52, 53, 54, 55, 56, 57, 58, 59, 60, 61, 62, 63] [] rfl rfl (by kernel_rfl) (by kernel_rfl) (by kernel_rfl) (by kernel_rfl) (by kernel_rfl) (by kernel_rfl) (by kernel_rfl) (fun _ _ _ h => h) (Or.inl ⟨by rfl, Or.inl ?hy98⟩) ?rest98
        case hy98 => (intro w' kk ss; obtain ⟨v1, v2, v3, v4⟩ := (HB.out.since (hr0.trans kk)).four; go_simp; first | done | with_reducible rfl)
        try simp only [Act.put, List.setIfInBounds_toArray, List.set_cons_zero, List.set_cons_succ]
        refine' Reg.wpG_take (i := 36) (oi := { dst := some 81, op := Op.move (Operand.tmp 0), type := 9, pos := "law.go:98", after := #[{ on := 35, ground := Ground.guard }], guard := some (35, false) }) (v := _) [40, 41, 42, 43, 44, 45, 46, 47, 48, 49, 50, 51, 52, 53, 54, 55, 56, 57, 58, 59, 60, 61, 62, 63] [] rfl rfl (by kernel_rfl) (by kernel_rfl) (by kernel_rfl) (by kernel_rfl) (by kernel_rfl) (by kernel_rfl) (by kernel_rfl) (fun _ _ _ h => h) (Or.inl ⟨by rfl, Or.inl ?hy99⟩) ?rest99
        case hy99 => (intro w' kk ss; obtain ⟨v1, v2, v3, v4⟩ := (HB.out.since (hr0.trans kk)).four; go_simp; first | done | with_reducible rfl)
        try simp only [Act.put, List.setIfInBounds_toArray, List.set_cons_zero, List.set_cons_succ]
        refine' Reg.wpG_take (i := 37) (oi := { dst := some 82, op := Op.move (Operand.tmp 6), type := 3, pos := "law.go:98", after := #[{ on := 35, ground := Ground.guard }], guard := some (35, false) }) (v := _) [40, 41, 42, 43, 44, 45, 46, 47, 48, 49, 50, 51, 52, 53, 54, 55, 56, 57, 58, 59, 60, 61, 62, 63] [] rfl rfl (by kernel_rfl) (by kernel_rfl) (by kernel_rfl) (by kernel_rfl) (by kernel_rfl) (by kernel_rfl) (by kernel_rfl) (fun _ _ _ h => h) (Or.inl ⟨by rfl, Or.inl ?hy100⟩) ?rest100
        case hy100 => (intro w' kk ss; obtain ⟨v1, v2, v3, v4⟩ := (HB.out.since (hr0.trans kk)).four; go_simp; first | done | with_reducible rfl)
        try simp only [Act.put, List.setIfInBounds_toArray, List.set_cons_zero, List.set_cons_succ]
        refine' Reg.wpG_take (i := 38) (oi := { dst := some 83, op := Op.fieldAddr 39 (Operand.tmp 8) 3, type := 0, pos := "law.go:98", after := #[{ on := 35, ground := Ground.guard }], guard := some (35, false) }) (v := _) [39, 40, 41, 42, 43, 44, 45, 46, 47, 48, 49, 50, 51, 52, 53, 54, 55, 56, 57, 58, 59, 60, 61, 62, 63] [] rfl rfl (by kernel_rfl) (by kernel_rfl) (by kernel_rfl) (by kernel_rfl) (by kernel_rfl) (by kernel_rfl) (by kernel_rfl) (fun _ _ _ h => h) (Or.inl ⟨by rfl, Or.inl ?hy101⟩) ?rest101
        case hy101 => (intro w' kk ss; obtain ⟨v1, v2, v3, v4⟩ := (HB.out.since (hr0.trans kk)).four; go_simp; first | done | with_reducible rfl)
        try simp only [Act.put, List.setIfInBounds_toArray, List.set_cons_zero, List.set_cons_succ]
        refine' Reg.wpG_take (i := 39) (oi := { dst := some 84, op := Op.load 3 (Operand.tmp 83), type := 3, pos := "law.go:98", after := #[{ on := 38, ground := Ground.data }, { on := 35, ground := Ground.guard }], guard := some (35, false) }) (v := _) [40, 41, 42, 43, 44, 45, 46, 47, 48, 49, 50, 51, 52, 53, 54, 55, 56, 57, 58, 59, 60, 61, 62, 63] [] rfl rfl (by kernel_rfl) (by kernel_rfl) (by kernel_rfl) (by kernel_rfl) (by kernel_rfl) (by kernel_rfl) (by kernel_rfl) (fun _ _ _ h => h) (Or.inl ⟨by rfl, Or.inl ?hy102⟩) ?rest102
        case hy102 => (intro w' kk ss; obtain ⟨v1, v2, v3, v4⟩ := (HB.out.since (hr0.trans kk)).four; go_simp; first | done | with_reducible rfl)
        try simp only [Act.put, List.setIfInBounds_toArray, List.set_cons_zero, List.set_cons_succ]
        refine' Reg.wpG_take (i := 40) (oi := { dst := some 85, op := Op.slice 9 (Operand.tmp 81) (some (Operand.tmp 82)) (some (Operand.tmp 84)) none, type := 9, pos := "law.go:98", after := #[{ on := 36, ground := Ground.data }, { on := 37, ground := Ground.data }, { on := 39, ground := Ground.data }, { on := 35, ground := Ground.guard }], guard := some (35, false) }) (v := _) [41, 42, 43, 44, 45, 46, 47, 48, 49, 50, 51, 52, 53, 54, 55, 56, 57, 58, 59, 60, 61, 62, 63] [] rfl rfl (by kernel_rfl) (by kernel_rfl) (by kernel_rfl) (by kernel_rfl) (by kernel_rfl) (by kernel_rfl) (by kernel_rfl) (fun _ _ _ h => h) (Or.inl ⟨by rfl, Or.inl ?hy103⟩) ?rest103
        case hy103 => (intro w' kk ss; obtain ⟨v1, v2, v3, v4⟩ := (HB.out.since (hr0.trans kk)).four; go_simp; first | done | with_reducible rfl)
        try simp only [Act.put, List.setIfInBounds_toArray, List.set_cons_zero, List.set_cons_succ]
        refine Reg.wpG_ready (rs := [41]) (by kernel_rfl) (by simp) (fun wq62001 k62001' sq62001 => ?_)
        have hr0 := hr0.trans k62001'
        refine Reg.AllG.first (o := { dst := some 86, op := Op.call { callee := Callee.value (Operand.func 16), args := #[Operand.tmp 85], argTypes := #[9] }, type := 4, pos := "law.go:98", after := #[{ on := 40, ground := Ground.data }, { on := 35, ground := Ground.chain }, { on := 35, ground := Ground.guard }], guard := some (35, false) }) rfl (by rfl) (fun K hK => ?_) Reg.AllG.nil
        go_simp
        (with_reducible refine (BL.out wq62001).mono ?_)
        rintro e y62001 ⟨rfl, hx⟩
        refine hK.out _ _ trivial hx ?_
        clear hK K
        have hr0 := hr0.trans hx
        clear hx
        try simp only [Act.put, List.setIfInBounds_toArray, List.set_cons_zero, List.set_cons_succ]
        refine' Reg.wpG_take (i := 42) (oi := { dst := some 87, op := Op.unOp UnOp.not 4 (Operand.tmp 86), type := 4, pos := "law.go:98", after := #[{ on := 41, ground := Ground.data }, { on := 35, ground := Ground.guard }], guard := some (35, false) }) (v := _) [43, 44, 45, 46, 47, 48, 49, 50, 51, 52, 53, 54, 55, 56, 57, 58, 59, 60, 61, 62, 63] [] rfl rfl (by kernel_rfl) (by kernel_rfl) (by kernel_rfl) (by kernel_rfl) (by kernel_rfl) (by kernel_rfl) (by kernel_rfl) (fun _ _ _ h => h) (Or.inl ⟨by rfl, Or.inl ?hy104⟩) ?rest104
        case hy104 => (intro w' kk ss; obtain ⟨v1, v2, v3, v4⟩ := (HB.out.since (hr0.trans kk)).four; go_simp; first | done | with_reducible rfl)
        try simp only [Act.put, List.setIfInBounds_toArray, List.set_cons_zero, List.set_cons_succ]
        refine' Reg.wpG_take (i := 43) (oi := { dst := some 88, op := Op.pick (Operand.tmp 80) (Operand.const (Value.bool true)) (Operand.tmp 87), type := 4, pos := "law.go:98", after := #[{ on := 35, ground := Ground.data }, { on := 42, ground := Ground.data }], guard := none }) (v := _) [44, 45, 46, 47, 48, 49, 50, 51, 52, 53, 54, 55, 56, 57, 58, 59, 60, 61, 62, 63] [] rfl rfl (by kernel_rfl) (by kernel_rfl) (by kernel_rfl) (by kernel_rfl) (by kernel_rfl) (by kernel_rfl) (by kernel_rfl) (fun _ _ _ h => h) (Or.inl ⟨by rfl, Or.inl ?hy105⟩) ?rest105
        case hy105 => (intro w' kk ss; obtain ⟨v1, v2, v3, v4⟩ := (HB.out.since (hr0.trans kk)).four; go_simp; first | done | with_reducible rfl)
        try simp only [Act.put, List.setIfInBounds_toArray, List.set_cons_zero, List.set_cons_succ]
        refine' Reg.wpG_take (i := 44) (oi := { dst := some 89, op := Op.move (Operand.tmp 88), type := 4, pos := "law.go:98", after := #[{ on := 43, ground := Ground.data }, { on := 41, ground := Ground.chain }], guard := none }) (v := _) [45, 46, 47, 48, 49, 50, 51, 52, 53, 54, 55, 56, 57, 58, 59, 60, 61, 62, 63] [] rfl rfl (by kernel_rfl) (by kernel_rfl) (by kernel_rfl) (by kernel_rfl) (by kernel_rfl) (by kernel_rfl) (by kernel_rfl) (fun _ _ _ h => h) (Or.inl ⟨by rfl, Or.inl ?hy106⟩) ?rest106
        case hy106 => (intro w' kk ss; obtain ⟨v1, v2, v3, v4⟩ := (HB.out.since (hr0.trans kk)).four; go_simp; first | done | with_reducible rfl)
        try simp only [Act.put, List.setIfInBounds_toArray, List.set_cons_zero, List.set_cons_succ]
        refine' Reg.wpG_take (i := 45) (oi := { dst := some 90, op := Op.fieldAddr 39 (Operand.tmp 8) 0, type := 0, pos := "law.go:98", after := #[{ on := 44, ground := Ground.guard }], guard := some (44, false) }) (v := _) [46, 47, 48, 49, 50, 51, 52, 53, 54, 55, 56, 57, 58, 59, 60, 61, 62, 63] [] rfl rfl (by kernel_rfl) (by kernel_rfl) (by kernel_rfl) (by kernel_rfl) (by kernel_rfl) (by kernel_rfl) (by kernel_rfl) (fun _ _ _ h => h) (Or.inl ⟨by rfl, Or.inl ?hy107⟩) ?rest107
        case hy107 => (intro w' kk ss; obtain ⟨v1, v2, v3, v4⟩ := (HB.out.since (hr0.trans kk)).four; go_simp; first | done | with_reducible rfl)
        try simp only [Act.put, List.setIfInBounds_toArray, List.set_cons_zero, List.set_cons_succ]
        refine' Reg.wpG_take (i := 46) (oi := { dst := some 91, op := Op.load 3 (Operand.tmp 90), type := 3, pos := "law.go:98", after := #[{ on := 45, ground := Ground.data }, { on := 44, ground := Ground.guard }], guard := some (44, false) }) (v := _) [47, 48, 49, 50, 51, 52, 53, 54, 55, 56, 57, 58, 59, 60, 61, 62, 63] [] rfl rfl (by kernel_rfl) (by kernel_rfl) (by kernel_rfl) (by kernel_rfl) (by kernel_rfl) (by kernel_rfl) (by kernel_rfl) (fun _ _ _ h => h) (Or.inl ⟨by rfl, Or.inl ?hy108⟩) ?rest108
        case hy108 => (intro w' kk ss; obtain ⟨v1, v2, v3, v4⟩ := (HB.out.since (hr0.trans kk)).four; go_simp; first | done | with_reducible rfl)
        try simp only [Act.put, List.setIfInBounds_toArray, List.set_cons_zero, List.set_cons_succ]
        refine' Reg.wpG_take (i := 47) (oi := { dst := some 92, op := Op.binOp BinOp.lss 3 (Operand.tmp 91) (Operand.const (Value.int IntKind.i64 1)) 3, type := 4, pos := "law.go:98", after := #[{ on := 46, ground := Ground.data }, { on := 44, ground := Ground.guard }], guard := some (44, false) }) (v := _) [48, 49, 50, 51, 52, 53, 54, 55, 56, 57, 58, 59, 60, 61, 62, 63] [] rfl rfl (by kernel_rfl) (by kernel_rfl) (by kernel_rfl) (by kernel_rfl) (by kernel_rfl) (by kernel_rfl) (by kernel_rfl) (fun _ _ _ h => h) (Or.inl ⟨by rfl, Or.inl ?hy109⟩) ?rest109
        case hy109 => (intro w' kk ss; obtain ⟨v1, v2, v3, v4⟩ := (HB.out.since (hr0.trans kk)).four; go_simp; first | done | with_reducible rfl)
        try simp only [Act.put, List.setIfInBounds_toArray, List.set_cons_zero, List.set_cons_succ]
        refine' Reg.wpG_take (i := 48) (oi := { dst := some 93, op := Op.pick (Operand.tmp 89) (Operand.const (Value.bool true)) (Operand.tmp 92), type := 4, pos := "law.go:98", after := #[{ on := 44, ground := Ground.data }, { on := 47, ground := Ground.data }], guard := none }) (v := _) [49, 50, 51, 52, 53, 54, 55, 56, 57, 58, 59, 60, 61, 62, 63] [] rfl rfl (by kernel_rfl) (by kernel_rfl) (by kernel_rfl) (by kernel_rfl) (by kernel_rfl) (by kernel_rfl) (by kernel_rfl) (fun _ _ _ h => h) (Or.inl ⟨by rfl, Or.inl ?hy110⟩) ?rest110
        case hy110 => (intro w' kk ss; obtain ⟨v1, v2, v3, v4⟩ := (HB.out.since (hr0.trans kk)).four; go_simp; first | done | with_reducible rfl)
        try simp only [Act.put, List.setIfInBounds_toArray, List.set_cons_zero, List.set_cons_succ]
        refine' Reg.wpG_take (i := 49) (oi := { dst := some 94, op := Op.move (Operand.tmp 93), type := 4, pos := "law.go:98", after := #[{ on := 48, ground := Ground.data }, { on := 44, ground := Ground.chain }], guard := none }) (v := _) [50, 51, 52, 53, 54, 55, 56, 57, 58, 59, 60, 61, 62, 63] [] rfl rfl (by kernel_rfl) (by kernel_rfl) (by kernel_rfl) (by kernel_rfl) (by kernel_rfl) (by kernel_rfl) (by kernel_rfl) (fun _ _ _ h => h) (Or.inl ⟨by rfl, Or.inl ?hy111⟩) ?rest111
        case hy111 => (intro w' kk ss; obtain ⟨v1, v2, v3, v4⟩ := (HB.out.since (hr0.trans kk)).four; go_simp; first | done | with_reducible rfl)
        try simp only [Act.put, List.setIfInBounds_toArray, List.set_cons_zero, List.set_cons_succ]
        refine' Reg.wpG_take (i := 50) (oi := { dst := some 95, op := Op.fieldAddr 39 (Operand.tmp 8) 0, type := 0, pos := "law.go:98", after := #[{ on := 49, ground := Ground.guard }], guard := some (49, false) }) (v := _) [51, 52, 53, 54, 55, 56, 57, 58, 59, 60, 61, 62, 63] [] rfl rfl (by kernel_rfl) (by kernel_rfl) (by kernel_rfl) (by kernel_rfl) (by kernel_rfl) (by kernel_rfl) (by kernel_rfl) (fun _ _ _ h => h) (Or.inl ⟨by rfl, Or.inl ?hy112⟩) ?rest112
        case hy112 => (intro w' kk ss; obtain ⟨v1, v2, v3, v4⟩ := (HB.out.since (hr0.trans kk)).four; go_simp; first | done | with_reducible rfl)
        try simp only [Act.put, List.setIfInBounds_toArray, List.set_cons_zero, List.set_cons_succ]
        refine' Reg.wpG_take (i := 51) (oi := { dst := some 96, op := Op.load 3 (Operand.tmp 95), type := 3, pos := "law.go:98", after := #[{ on := 50, ground := Ground.data }, { on := 49, ground := Ground.guard }], guard := some (49, false) }) (v := _) [52, 53, 54, 55, 56, 57, 58, 59, 60, 61, 62, 63] [] rfl rfl (by kernel_rfl) (by kernel_rfl) (by kernel_rfl) (by kernel_rfl) (by kernel_rfl) (by kernel_rfl) (by kernel_rfl) (fun _ _ _ h => h) (Or.inl ⟨by rfl, Or.inl ?hy113⟩) ?rest113
        case hy113 => (intro w' kk ss; obtain ⟨v1, v2, v3, v4⟩ := (HB.out.since (hr0.trans kk)).four; go_simp; first | done | with_reducible rfl)
        try simp only [Act.put, List.setIfInBounds_toArray, List.set_cons_zero, List.set_cons_succ]
        refine' Reg.wpG_take (i := 52) (oi := { dst := some 97, op := Op.binOp BinOp.gtr 3 (Operand.tmp 96) (Operand.const (Value.int IntKind.i64 3)) 3, type := 4, pos := "law.go:98", after := #[{ on := 51, ground := Ground.data }, { on := 49, ground := Ground.guard }], guard := some (49, false) }) (v := _) [53, 54, 55, 56, 57, 58, 59, 60, 61, 62, 63] [] rfl rfl (by kernel_rfl) (by kernel_rfl) (by kernel_rfl) (by kernel_rfl) (by kernel_rfl) (by kernel_rfl) (by kernel_rfl) (fun _ _ _ h => h) (Or.inl ⟨by rfl, Or.inl ?hy114⟩) ?rest114
        case hy114 => (intro w' kk ss; obtain ⟨v1, v2, v3, v4⟩ := (HB.out.since (hr0.trans kk)).four; go_simp; first | done | with_reducible rfl)
        try simp only [Act.put, List.setIfInBounds_toArray, List.set_cons_zero, List.set_cons_succ]
        refine' Reg.wpG_take (i := 53) (oi := { dst := some 98, op := Op.pick (Operand.tmp 94) (Operand.const (Value.bool true)) (Operand.tmp 97), type := 4, pos := "law.go:98", after := #[{ on := 49, ground := Ground.data }, { on := 52, ground := Ground.data }], guard := none }) (v := _) [54, 55, 56, 57, 58, 59, 60, 61, 62, 63] [] rfl rfl (by kernel_rfl) (by kernel_rfl) (by kernel_rfl) (by kernel_rfl) (by kernel_rfl) (by kernel_rfl) (by kernel_rfl) (fun _ _ _ h => h) (Or.inl ⟨by rfl, Or.inl ?hy115⟩) ?rest115
        case hy115 => (intro w' kk ss; obtain ⟨v1, v2, v3, v4⟩ := (HB.out.since (hr0.trans kk)).four; go_simp; first | done | with_reducible rfl)
        try simp only [Act.put, List.setIfInBounds_toArray, List.set_cons_zero, List.set_cons_succ]
        refine' Reg.wpG_take (i := 54) (oi := { dst := some 99, op := Op.move (Operand.tmp 98), type := 4, pos := "law.go:98", after := #[{ on := 53, ground := Ground.data }, { on := 49, ground := Ground.chain }], guard := none }) (v := _) [55, 56, 57, 58, 59, 60, 61, 62, 63] [] rfl rfl (by kernel_rfl) (by kernel_rfl) (by kernel_rfl) (by kernel_rfl) (by kernel_rfl) (by kernel_rfl) (by kernel_rfl) (fun _ _ _ h => h) (Or.inl ⟨by rfl, Or.inl ?hy116⟩) ?rest116
        case hy116 => (intro w' kk ss; obtain ⟨v1, v2, v3, v4⟩ := (HB.out.since (hr0.trans kk)).four; go_simp; first | done | with_reducible rfl)
        try simp only [Act.put, List.setIfInBounds_toArray, List.set_cons_zero, List.set_cons_succ]
        refine' Reg.wpG_take (i := 55) (oi := { dst := some 100, op := Op.fieldAddr 39 (Operand.tmp 8) 0, type := 0, pos := "law.go:98", after := #[{ on := 54, ground := Ground.guard }], guard := some (54, false) }) (v := _) [56, 57, 58, 59, 60, 61, 62, 63] [] rfl rfl (by kernel_rfl) (by kernel_rfl) (by kernel_rfl) (by kernel_rfl) (by kernel_rfl) (by kernel_rfl) (by kernel_rfl) (fun _ _ _ h => h) (Or.inl ⟨by rfl, Or.inl ?hy117⟩) ?rest117
        case hy117 => (intro w' kk ss; obtain ⟨v1, v2, v3, v4⟩ := (HB.out.since (hr0.trans kk)).four; go_simp; first | done | with_reducible rfl)
        try simp only [Act.put, List.setIfInBounds_toArray, List.set_cons_zero, List.set_cons_succ]
        refine' Reg.wpG_take (i := 56) (oi := { dst := some 101, op := Op.load 3 (Operand.tmp 100), type := 3, pos := "law.go:98", after := #[{ on := 55, ground := Ground.data }, { on := 54, ground := Ground.guard }], guard := some (54, false) }) (v := _) [57, 58, 59, 60, 61, 62, 63] [] rfl rfl (by kernel_rfl) (by kernel_rfl) (by kernel_rfl) (by kernel_rfl) (by kernel_rfl) (by kernel_rfl) (by kernel_rfl) (fun _ _ _ h => h) (Or.inl ⟨by rfl, Or.inl ?hy118⟩) ?rest118
        case hy118 => (intro w' kk ss; obtain ⟨v1, v2, v3, v4⟩ := (HB.out.since (hr0.trans kk)).four; go_simp; first | done | with_reducible rfl)
        try simp only [Act.put, List.setIfInBounds_toArray, List.set_cons_zero, List.set_cons_succ]
        refine' Reg.wpG_take (i := 57) (oi := { dst := some 102, op := Op.binOp BinOp.neq 3 (Operand.tmp 101) (Operand.const (Value.int IntKind.i64 2)) 3, type := 4, pos := "law.go:98", after := #[{ on := 56, ground := Ground.data }, { on := 54, ground := Ground.guard }], guard := some (54, false) }) (v := _) [58, 59, 60, 61, 62, 63] [] rfl rfl (by kernel_rfl) (by kernel_rfl) (by kernel_rfl) (by kernel_rfl) (by kernel_rfl) (by kernel_rfl) (by kernel_rfl) (fun _ _ _ h => h) (Or.inl ⟨by rfl, Or.inl ?hy119⟩) ?rest119
        case hy119 => (intro w' kk ss; obtain ⟨v1, v2, v3, v4⟩ := (HB.out.since (hr0.trans kk)).four; go_simp; first | done | with_reducible rfl)
        try simp only [Act.put, List.setIfInBounds_toArray, List.set_cons_zero, List.set_cons_succ]
        refine' Reg.wpG_take (i := 58) (oi := { dst := some 103, op := Op.move (Operand.tmp 102), type := 4, pos := "law.go:98", after := #[{ on := 57, ground := Ground.data }, { on := 54, ground := Ground.chain }, { on := 54, ground := Ground.guard }], guard := some (54, false) }) (v := _) [59, 60, 61, 62, 63] [] rfl rfl (by kernel_rfl) (by kernel_rfl) (by kernel_rfl) (by kernel_rfl) (by kernel_rfl) (by kernel_rfl) (by kernel_rfl) (fun _ _ _ h => h) (Or.inl ⟨by rfl, Or.inl ?hy120⟩) ?rest120
        case hy120 => (intro w' kk ss; obtain ⟨v1, v2, v3, v4⟩ := (HB.out.since (hr0.trans kk)).four; go_simp; first | done | with_reducible rfl)
        try simp only [Act.put, List.setIfInBounds_toArray, List.set_cons_zero, List.set_cons_succ]
        refine' Reg.wpG_take (i := 59) (oi := { dst := some 104, op := Op.fieldAddr 39 (Operand.tmp 8) 2, type := 0, pos := "law.go:98", after := #[{ on := 58, ground := Ground.guard }], guard := some (58, true) }) (v := _) [60, 61, 62, 63] [] rfl rfl (by kernel_rfl) (by kernel_rfl) (by kernel_rfl) (by kernel_rfl) (by kernel_rfl) (by kernel_rfl) (by kernel_rfl) (fun _ _ _ h => h) (Or.inl ⟨by rfl, Or.inl ?hy121⟩) ?rest121
        case hy121 => (intro w' kk ss; obtain ⟨v1, v2, v3, v4⟩ := (HB.out.since (hr0.trans kk)).four; go_simp; first | done | with_reducible rfl)
        try simp only [Act.put, List.setIfInBounds_toArray, List.set_cons_zero, List.set_cons_succ]
        refine' Reg.wpG_take (i := 60) (oi := { dst := some 105, op := Op.load 2 (Operand.tmp 104), type := 2, pos := "law.go:98", after := #[{ on := 59, ground := Ground.data }, { on := 58, ground := Ground.guard }], guard := some (58, true) }) (v := _) [61, 62, 63] [] rfl rfl (by kernel_rfl) (by kernel_rfl) (by kernel_rfl) (by kernel_rfl) (by kernel_rfl) (by kernel_rfl) (by kernel_rfl) (fun _ _ _ h => h) (Or.inl ⟨by rfl, Or.inl ?hy122⟩) ?rest122
        case hy122 => (intro w' kk ss; obtain ⟨v1, v2, v3, v4⟩ := (HB.out.since (hr0.trans kk)).four; go_simp; first | done | with_reducible rfl)
        try simp only [Act.put, List.setIfInBounds_toArray, List.set_cons_zero, List.set_cons_succ]
        refine' Reg.wpG_take (i := 61) (oi := { dst := some 106, op := Op.binOp BinOp.neq 2 (Operand.tmp 105) (Operand.const (Value.int IntKind.i64 0)) 2, type := 4, pos := "law.go:98", after := #[{ on := 60, ground := Ground.data }, { on := 58, ground := Ground.guard }], guard := some (58, true) }) (v := _) [62, 63] [] rfl rfl (by kernel_rfl) (by kernel_rfl) (by kernel_rfl) (by kernel_rfl) (by kernel_rfl) (by kernel_rfl) (by kernel_rfl) (fun _ _ _ h => h) (Or.inl ⟨by rfl, Or.inl ?hy123⟩) ?rest123
        case hy123 => (intro w' kk ss; obtain ⟨v1, v2, v3, v4⟩ := (HB.out.since (hr0.trans kk)).four; go_simp; first | done | with_reducible rfl)
        try simp only [Act.put, List.setIfInBounds_toArray, List.set_cons_zero, List.set_cons_succ]
        refine' Reg.wpG_take (i := 62) (oi := { dst := some 107, op := Op.pick (Operand.tmp 103) (Operand.tmp 106) (Operand.const (Value.bool false)), type := 4, pos := "law.go:98", after := #[{ on := 58, ground := Ground.data }, { on := 61, ground := Ground.data }, { on := 54, ground := Ground.guard }], guard := some (54, false) }) (v := _) [63] [] rfl rfl (by kernel_rfl) (by kernel_rfl) (by kernel_rfl) (by kernel_rfl) (by kernel_rfl) (by kernel_rfl) (by kernel_rfl) (fun _ _ _ h => h) (Or.inl ⟨by rfl, Or.inl ?hy124⟩) ?rest124
        case hy124 => (intro w' kk ss; obtain ⟨v1, v2, v3, v4⟩ := (HB.out.since (hr0.trans kk)).four; go_simp; first | done | with_reducible rfl)
        try simp only [Act.put, List.setIfInBounds_toArray, List.set_cons_zero, List.set_cons_succ]
        refine' Reg.wpG_take (i := 63) (oi := { dst := some 108, op := Op.pick (Operand.tmp 99) (Operand.const (Value.bool true)) (Operand.tmp 107), type := 4, pos := "law.go:98", after := #[{ on := 54, ground := Ground.data }, { on := 62, ground := Ground.data }], guard := none }) (v := _) [] [] rfl rfl (by kernel_rfl) (by kernel_rfl) (by kernel_rfl) (by kernel_rfl) (by kernel_rfl) (by kernel_rfl) (by kernel_rfl) (fun _ _ _ h => h) (Or.inl ⟨by rfl, Or.inl ?hy125⟩) ?rest125
        case hy125 => (intro w' kk ss; obtain ⟨v1, v2, v3, v4⟩ := (HB.out.since (hr0.trans kk)).four; go_simp; first | done | with_reducible rfl)
        try simp only [Act.put, List.setIfInBounds_toArray, List.set_cons_zero, List.set_cons_succ]
        refine Reg.wpG_done (by kernel_rfl) (fun we ke se => ?_) _
        refine NoPanic.normal ?_
        have hr0 := hr0.trans ke
        clear ke
        obtain ⟨v1, v2, v3, v4⟩ := (HB.out.since hr0).four
        go_wp2
        go_roundw
        case rel => exact ⟨k + 1, at_ + tn, by omega, by go_num, by go_num, HX.out, hS0.trans hr0⟩
        case measure => simp [intOf]; omega
    · obtain rfl : k = n := by omega
      have hq := HQ.out
      rw [List.drop_eq_nil_of_le (by have := HN.out; omega)] at hq
      obtain ⟨z1, z2⟩ := hq
      rw [L_len] at z1
      have BL := Lib.hid (fun W => blank_yes (a0.extract q a0.size) W (by rw [ByteArray.size_extract]; omega) (by rw [L_extract _ _ _ z1, List.take_of_length_le (by rw [List.length_drop, L_len]; exact Nat.le_refl _)]; exact z2))
      clear z2
      go_wp2_with (go_at_call 16; (with_reducible refine (BL.out _).mono ?_); rintro e w3 ⟨rfl, h3⟩)
      go_ret
      exact ⟨rfl, (h12.trans hw).trans h3⟩

set_option maxRecDepth 100000 in
theorem lifted (os : Os) (started : os.Started) (H : Type) (enc : TypeId × Value → H) :
    ReturnsInHanded {} Tryd.checked os 6 .any (fun w args => (Rows.lexPlacesSpec.pre enc Tryd.prog Tryd.f6 Rows.lexPlacesRow.domain false w args ∧ laidMetH Tryd.prog Rows.lexPlacesRow.laid w) ∧ sizedMet enc Tryd.prog Tryd.f6 (OpenSpec.ofChange Rows.lexPlacesSpec) false w args) (Rows.lexPlacesSpec.post enc Tryd.prog Tryd.f6 false true false false) := by
  refine returnsInHanded_of_change_and (C := Tryd.checked) (X := fun w _ => laidMetH Tryd.prog Rows.lexPlacesRow.laid w) (fun _ _ _ hh h => h.of_heap hh) own started (by kernel_rfl) Tryd.func6
    (ChangeSpec.witness_shaped (enc := enc) (C := Tryd.checked) (os := os) (X := fun w _ => laidMetH Tryd.prog Rows.lexPlacesRow.laid w) false (World.laidAll Tryd.prog os Rows.lexPlacesRow.laid) #[.string ByteArray.empty] 8 (World.laidAll_os _ _ _)
      (World.shaped_of_ZipB (by kernel_rfl) (by kernel_rfl)) (by kernel_rfl) (by kernel_rfl) (by kernel_rfl)
      (by rw [MakeChecks.laidMetH_plain _ _ _ (by kernel_rfl)]; exact laidMet_laidAll _ (by kernel_rfl) (by kernel_rfl))) ?_
  intro W base args ds gs before hval0 hW hcnd _ hL _
  have hval : ∀ (j : Nat) t v, Tryd.f6.params[j]? = some t → args[j]? = some v → Value.okWide Tryd.prog W .any base t v := hval0
  have hW' := hW
  obtain ⟨p, q, hA0, hV, rfl, hfz, hnd⟩ := hW
  have hA : DataW.TrodAll enc Tryd.prog W 0 (fun _ => true) true Tryd.f6.params.toList args.toList ds p := hA0
  rw [Tryd.params6] at hA hval
  obtain ⟨v0, vs0, d0, ds0, p0, q0, hargs, rfl, rfl, h0, r0⟩ := trodAll_cons hA
  obtain ⟨rfl, rfl, rfl⟩ := trodAll_nil r0
  obtain rfl : args = #[v0] := by cases args; simp_all
  obtain ⟨rfl, rfl⟩ := trodVars_none hV
  obtain ⟨a0, rfl, rfl, rfl, w0⟩ := open_string Tryd.underlying9 (hval 0 9 v0 rfl rfl) h0
  clear hA0 hval0
  simp only [List.append_nil] at hW'
  refine (walk a0 w0 W (Go.Proofs.YtbkkalmdjcpgoaaDoor.Lex.err_of hL (by kernel_rfl) (List.mem_of_getElem? (i := 3) rfl))).mono fun e W' ⟨he, bel⟩ => ?_
  subst he
  exact ⟨_, rfl, _, _, _, [], [], [], hW', (trodAll_cons_mk (shut_bool Tryd.underlying4 _) trodAll_mk0), (trodAll_cons_mk (shut_string Tryd.underlying9 w0) trodAll_mk0), rfl, Below.frame bel _, fun h => by cases h⟩

theorem over : Rows.lexPlacesRow.holds Tryd.pinned (OpenSpec.ofChange Rows.lexPlacesSpec) :=
  OpenClaim.holds_of_wide 6 Tryd.f6 rfl rfl rfl rfl rfl rfl rfl ⟨rfl, rfl, rfl, rfl, rfl⟩ rfl rfl rfl rfl rfl (by kernel_rfl) Tryd.func6 (by kernel_rfl)
    (of_decide_eq_true (by kernel_rfl)) (by unfold Func.isWrapper; first | (rw [if_pos (by decide +kernel)]; kernel_rfl) | (rw [if_neg (by decide +kernel)]; exact ⟨rfl, rfl⟩))
    (fun os started H enc _ => lifted os started H enc)

/-- THE STATEMENT: the tied card -/
theorem proved : Rows.LexPlacesCardSaid :=
  Claim7.holds_tied_plain_at .later [] _ _ _ _ over (fun _ h => by cases h) (by kernel_rfl) (fun _ h => by cases h) lexPlaces_row_tie rfl ⟨rfl, rfl⟩ (by kernel_rfl) rfl
    (fun f fn hf hfn => by
      obtain rfl : f = 6 := Option.some.inj ((show Tryd.prog.funcNamed "touchstone/touchstonelaw05.LexPlaces" = some 6 by kernel_rfl).symm.trans hf) |>.symm
      obtain rfl : fn = Tryd.f6 := (Option.some.inj (Tryd.func6.symm.trans hfn)).symm
      exact ⟨by kernel_rfl, fun j t ht => by
        rw [Tryd.params6] at ht
        have hm : t ∈ [9] := by simpa using Array.mem_of_getElem? ht
        have hall : ([9].all fun u => !Tryd.prog.wantsStandIn u) = true := by kernel_rfl
        exact (show Tryd.prog.wantsStandIn t = false by simpa using List.all_eq_true.1 hall t hm)⟩)
    (by kernel_rfl)
#print axioms proved
end Go.Proofs.YtbkkalmdjcpgoaaDoor.lexPlaces
