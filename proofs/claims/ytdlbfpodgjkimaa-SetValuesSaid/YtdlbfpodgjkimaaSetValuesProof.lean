/-
  For all ranges a and b and all ends: the law SetValues returns true (a value is in a part of a set, in the set without another one, and in what two sets have, just if it should be). No condition.
-/
import Derived.Test.YtdlbfpodgjkimaaRows
import Derived.WalkKit
import Derived.ProofKit
import Derived.OpenShut
import Derived.ShutString
import Derived.ChangeOld
import Derived.Below
import Derived.Test.YtdlbfpodgjkimaaEy
import Derived.Test.YtdlbfpodgjkimaaEh
import Derived.Test.YtdlbfpodgjkimaaEi
namespace Go.Proofs.Ytdlbfpodgjkimaa.setValues
open Go.ChangeShapes Go.WideShapes Go.ChangeAt Go.RowKit
open Go.ChangeMaps (open_string shut_string)
open Go.Proofs.Ytdlbfpodgjkimaa.Dig Go.Proofs.Ytdlbfpodgjkimaa.Zs
open Go.Proofs.Ytdlbfpodgjkimaa.Ti (Sl QR stR)
set_option linter.unusedVariables false

theorem own : ownKnob Try.prog.godebug = none := by kernel_rfl
theorem laidOut : laidOutB Try.prog = true := by kernel_rfl

/-- WHAT THE WALK IS TOLD OF A SLICE OF INTEGERS THAT CAME IN: it is nil; or it leads to a row of 'cap' cells, the numbers 'zs' (the first 'len' are its elements, the rest its spare room), each fitting its kind. -/
def IsRow (k : IntKind) (w : World) (a : Option Addr) (len cap : Nat) (zs : List Int) : Prop :=
  (a = none ∧ len = 0 ∧ cap = 0 ∧ zs = []) ∨
  ∃ x, a = some x ∧ len ≤ cap ∧ cap ≤ maxLen ∧ zs.length = cap ∧ (∀ i, i < zs.length → w.cell? (x.add i) = some (.int k (zs.getD i 0))) ∧ ∀ n ∈ zs, (Lit.int k n).wf = true

set_option maxHeartbeats 8000000 in
theorem walk (a0 : Option Addr) (len0 cap0 : Nat) (z0 : List Go.Proofs.Ytdlbfpodgjkimaa.Zs.Rn) (a1 : Option Addr) (len1 cap1 : Nat) (z1 : List Go.Proofs.Ytdlbfpodgjkimaa.Zs.Rn) (x2 y2 z2 : Int) (w : World) (w0 : Go.Proofs.Ytdlbfpodgjkimaa.Zs.RangesIn w a0 len0 cap0 z0) (w1 : Go.Proofs.Ytdlbfpodgjkimaa.Zs.RangesIn w a1 len1 cap1 z1) (w2 : (Lit.int .i64 x2).wf = true ∧ (Lit.int .i64 y2).wf = true ∧ (Lit.int .i64 z2).wf = true) :
    Calls Try.prog 6 #[.slice a0 len0 cap0, .slice a1 len1 cap1, .agg #[.int .i64 x2, .int .i64 y2, .int .i64 z2]] w fun e w' => e = .returned (.bool true) ∧ Since w w' := by
  obtain ⟨hn0, hS0, hB0, -⟩ := w0
  obtain ⟨hn1, hS1, hB1, -⟩ := w1
  obtain ⟨wx, wy, wz⟩ := w2
  subst hn0 hn1
  have hfx := wf_fits wx
  have hfz := wf_fits wz
  obtain ⟨W0, hW0⟩ : ∃ W0, W0 = w.alloc (.cells #[.int .i64 x2, .int .i64 y2, .int .i64 z2] 44) := ⟨_, rfl⟩
  have k0 : Since w W0 := by rw [hW0]; exact since_alloc _ _
  have HB := Lib.hid (fun W (k : Since W0 W) => (show W.cell? ⟨w.heap.size, 0, none⟩ = some (.int .i64 x2) ∧ W.cell? ⟨w.heap.size, 1, none⟩ = some (.int .i64 y2) ∧ W.cell? ⟨w.heap.size, 2, none⟩ = some (.int .i64 z2) from by have b : Bx W w.heap.size #[.int .i64 x2, .int .i64 y2, .int .i64 z2] 44 := Bx.since (by rw [hW0]; exact Bx.fresh _ _ _) k; exact ⟨b.cell 0, b.cell 1, b.cell 2⟩))
  have AL := Lib.hid (hW0 ▸ alive_any W0)
  have K00 := Lib.hid k0
  by_cases b0 : z0.length > 300
  · clear hS0 hB0 hS1 hB1
    subst hW0
    go_enter Try.func6, Try.ntmps6
    go_wp2_with (go_at_call 10; (with_reducible refine AL.out.mono ?_); rintro e w1 ⟨rfl, k1⟩; have K1 := K00.out.trans k1)
    go_ret
    exact ⟨rfl, K1⟩
  by_cases b1 : z1.length > 300
  · clear hS0 hB0 hS1 hB1
    subst hW0
    go_enter Try.func6, Try.ntmps6
    go_wp2_with (go_at_call 10; (with_reducible refine AL.out.mono ?_); rintro e w1 ⟨rfl, k1⟩; have K1 := K00.out.trans k1)
    go_ret
    exact ⟨rfl, K1⟩
  cases r0 : right z0 with
  | false =>
    have R0 := Lib.hid (fun W k => right_at hS0 (by omega) hB0 r0 W k)
    clear hS0 hB0 hS1 hB1 r0
    subst hW0
    go_enter Try.func6, Try.ntmps6
    go_wp2_with (first
      | (go_at_call 10; (with_reducible refine AL.out.mono ?_); rintro e w1 ⟨rfl, k1⟩; have K1 := K00.out.trans k1)
      | (go_at_call 14; (with_reducible refine (R0.out _ K1).mono ?_); rintro e w2 ⟨rfl, k2⟩; have K2 := K1.trans k2))
    go_ret
    exact ⟨rfl, K2⟩
  | true =>
    have R0 := Lib.hid (fun W k => right_at hS0 (by omega) hB0 r0 W k)
    cases r1 : right z1 with
    | false =>
      have R1 := Lib.hid (fun W k => right_at hS1 (by omega) hB1 r1 W k)
      clear hS0 hB0 hS1 hB1 r1
      subst hW0
      go_enter Try.func6, Try.ntmps6
      go_wp2_with (first
        | (go_at_call 10; (with_reducible refine AL.out.mono ?_); rintro e w1 ⟨rfl, k1⟩; have K1 := K00.out.trans k1)
        | (go_at_call 14; (with_reducible refine (R0.out _ K1).mono ?_); rintro e w2 ⟨rfl, k2⟩; have K2 := K1.trans k2)
        | (go_at_call 14; (with_reducible refine (R1.out _ K2).mono ?_); rintro e w3 ⟨rfl, k3⟩; have K3 := K2.trans k3))
      go_ret
      exact ⟨rfl, K3⟩
    | true =>
      have R1 := Lib.hid (fun W k => right_at hS1 (by omega) hB1 r1 W k)
      obtain ⟨C, hC⟩ : ∃ X, cut z0 x2 y2 = X := ⟨_, rfl⟩
      obtain ⟨U, hU⟩ : ∃ X, without z0 x2 = X := ⟨_, rfl⟩
      obtain ⟨X, hX⟩ : ∃ X, meet z0 z1 = X := ⟨_, rfl⟩
      have hCr : right C = true := hC ▸ cut_right z0 _ _
      have hUr : right U = true := hU ▸ without_right z0 _
      have hXr : right X = true := hX ▸ meet_right z0 z1
      have hCl : C.length ≤ 300 := by have := cut_len z0 x2 y2; rw [hC] at this; omega
      have hUl : U.length ≤ 600 := by have := without_len z0 x2; rw [hU] at this; omega
      have hXl : X.length ≤ 600 := by have := @meet_len z0 z1; rw [hX] at this; omega
      have eC := has_cut r0 x2 y2 z2
      have eU := has_without r0 x2 z2
      have eX := has_meet r0 r1 z2
      rw [hC] at eC
      rw [hU] at eU
      rw [hX] at eX
      have CA := Lib.hid (fun W (k : Since w W) => hC ▸ cut_any _ z0 x2 y2 W (hS0.since stR k) (by omega) hB0)
      have UA := Lib.hid (fun W (k : Since w W) => hU ▸ without_any _ z0 x2 W (hS0.since stR k) (by omega) hB0 hfx)
      have XA := Lib.hid (fun W (k : Since w W) => hX ▸ meet_any _ _ z0 z1 W (hS0.since stR k) (hS1.since stR k) (by omega) (by omega) hB0 hB1)
      have HA := Lib.hid (fun W (k : Since w W) => has_any _ z0 z2 W (hS0.since stR k) (by omega) hB0 hfz)
      have HH := Lib.hid (fun W (k : Since w W) => has_any _ z1 z2 W (hS1.since stR k) (by omega) hB1 hfz)
      have RC := Lib.hid (fun (v : Value) (W : World) (h : Sl 2 QR W v C) => show Calls Try.prog 14 #[v] W (RetT true W) from hCr ▸ right_any v C W h (by omega) (okF_bd hCr (Int.le_refl _)))
      have HC1 := Lib.hid (fun (v : Value) (W : World) (h : Sl 2 QR W v C) => has_any v C z2 W h (by omega) (okF_bd hCr (Int.le_refl _)) hfz)
      have RU := Lib.hid (fun (v : Value) (W : World) (h : Sl 2 QR W v U) => show Calls Try.prog 14 #[v] W (RetT true W) from hUr ▸ right_any v U W h (by omega) (okF_bd hUr (Int.le_refl _)))
      have HU := Lib.hid (fun (v : Value) (W : World) (h : Sl 2 QR W v U) => has_any v U z2 W h (by omega) (okF_bd hUr (Int.le_refl _)) hfz)
      have RX := Lib.hid (fun (v : Value) (W : World) (h : Sl 2 QR W v X) => show Calls Try.prog 14 #[v] W (RetT true W) from hXr ▸ right_any v X W h (by omega) (okF_bd hXr (Int.le_refl _)))
      have HX := Lib.hid (fun (v : Value) (W : World) (h : Sl 2 QR W v X) => has_any v X z2 W h (by omega) (okF_bd hXr (Int.le_refl _)) hfz)
      clear hS0 hB0 hS1 hB1 hC hU hX hCr hUr hXr hCl hUl hXl hfx hfz r0 r1 wx wy wz
      cases ha : has z0 z2 with
      | false =>
        rw [ha, Bool.false_and] at eC eU eX
        rw [ha] at HA
        rw [eC] at HC1
        rw [eU] at HU
        rw [eX] at HX
        clear eC eU eX
        clear ha
        subst hW0
        go_enter Try.func6, Try.ntmps6
        go_wp2_with (first
          | (go_at_call 10; (with_reducible refine AL.out.mono ?_); rintro e w1 ⟨rfl, k1⟩; have K1 := K00.out.trans k1)
          | (go_at_call 14; (with_reducible refine (R0.out _ K1).mono ?_); rintro e w2 ⟨rfl, k2⟩; have K2 := K1.trans k2)
          | (go_at_call 14; (with_reducible refine (R1.out _ K2).mono ?_); rintro e w3 ⟨rfl, k3⟩; have K3 := K2.trans k3))
        have HC := Lib.hid (fun W (k : Since w3 W) => HB.out W ((k1.trans k2).trans (k3.trans k)))
        have hr0 : Since w3 w3.drew := Since.drew (Since.refl w3)
        refine wp_region_noPanic ?_
        refine Reg.wp_region_G (S := fun _ => True) (fun j => [].contains j) (by kernel_rfl) trivial ?_
        refine' Reg.wpG_take (i := 0) (oi := { dst := some 33, op := Op.indexAddr 44 (Operand.tmp 5) (Operand.const (Value.int IntKind.i64 0)), type := 0, pos := "law.go:69", after := #[], guard := none }) (v := _) [1, 6, 7, 8] [] rfl rfl (by kernel_rfl) (by kernel_rfl) (by kernel_rfl) (by kernel_rfl) (by kernel_rfl) (by kernel_rfl) (by kernel_rfl) (fun _ _ _ h => h) (Or.inl ⟨by rfl, Or.inl ?hy42⟩) ?rest42
        case hy42 => (intro w' kk ss; obtain ⟨u0, u1, u2⟩ := HC.out _ (hr0.trans kk); go_simp; first | done | with_reducible rfl)
        try simp only [Act.put, List.setIfInBounds_toArray, List.set_cons_zero, List.set_cons_succ]
        refine' Reg.wpG_take (i := 1) (oi := { dst := some 34, op := Op.load 2 (Operand.tmp 33), type := 2, pos := "law.go:69", after := #[{ on := 0, ground := Ground.data }], guard := none }) (v := _) [6, 7, 8] [] rfl rfl (by kernel_rfl) (by kernel_rfl) (by kernel_rfl) (by kernel_rfl) (by kernel_rfl) (by kernel_rfl) (by kernel_rfl) (fun _ _ _ h => h) (Or.inl ⟨by rfl, Or.inl ?hy43⟩) ?rest43
        case hy43 => (intro w' kk ss; obtain ⟨u0, u1, u2⟩ := HC.out _ (hr0.trans kk); go_simp; first | done | with_reducible rfl)
        try simp only [Act.put, List.setIfInBounds_toArray, List.set_cons_zero, List.set_cons_succ]
        refine' Reg.wpG_take (i := 2) (oi := { dst := some 35, op := Op.indexAddr 44 (Operand.tmp 5) (Operand.const (Value.int IntKind.i64 1)), type := 0, pos := "law.go:69", after := #[{ on := 6, ground := Ground.gcOnly Departure.lateStores }], guard := none }) (v := _) [3, 7, 8] [] rfl rfl (by kernel_rfl) (by kernel_rfl) (by kernel_rfl) (by kernel_rfl) (by kernel_rfl) (by kernel_rfl) (by kernel_rfl) (fun _ _ _ h => h) (Or.inl ⟨by rfl, Or.inl ?hy44⟩) ?rest44
        case hy44 => (intro w' kk ss; obtain ⟨u0, u1, u2⟩ := HC.out _ (hr0.trans kk); go_simp; first | done | with_reducible rfl)
        try simp only [Act.put, List.setIfInBounds_toArray, List.set_cons_zero, List.set_cons_succ]
        refine' Reg.wpG_take (i := 3) (oi := { dst := some 36, op := Op.load 2 (Operand.tmp 35), type := 2, pos := "law.go:69", after := #[{ on := 2, ground := Ground.data }, { on := 6, ground := Ground.gcOnly Departure.lateStores }], guard := none }) (v := _) [7, 8] [] rfl rfl (by kernel_rfl) (by kernel_rfl) (by kernel_rfl) (by kernel_rfl) (by kernel_rfl) (by kernel_rfl) (by kernel_rfl) (fun _ _ _ h => h) (Or.inl ⟨by rfl, Or.inl ?hy45⟩) ?rest45
        case hy45 => (intro w' kk ss; obtain ⟨u0, u1, u2⟩ := HC.out _ (hr0.trans kk); go_simp; first | done | with_reducible rfl)
        try simp only [Act.put, List.setIfInBounds_toArray, List.set_cons_zero, List.set_cons_succ]
        refine' Reg.wpG_take (i := 4) (oi := { dst := some 37, op := Op.indexAddr 44 (Operand.tmp 5) (Operand.const (Value.int IntKind.i64 2)), type := 0, pos := "law.go:69", after := #[{ on := 7, ground := Ground.gcOnly Departure.lateStores }], guard := none }) (v := _) [5, 8] [] rfl rfl (by kernel_rfl) (by kernel_rfl) (by kernel_rfl) (by kernel_rfl) (by kernel_rfl) (by kernel_rfl) (by kernel_rfl) (fun _ _ _ h => h) (Or.inl ⟨by rfl, Or.inl ?hy46⟩) ?rest46
        case hy46 => (intro w' kk ss; obtain ⟨u0, u1, u2⟩ := HC.out _ (hr0.trans kk); go_simp; first | done | with_reducible rfl)
        try simp only [Act.put, List.setIfInBounds_toArray, List.set_cons_zero, List.set_cons_succ]
        refine' Reg.wpG_take (i := 5) (oi := { dst := some 38, op := Op.load 2 (Operand.tmp 37), type := 2, pos := "law.go:69", after := #[{ on := 4, ground := Ground.data }, { on := 7, ground := Ground.gcOnly Departure.lateStores }], guard := none }) (v := _) [8] [] rfl rfl (by kernel_rfl) (by kernel_rfl) (by kernel_rfl) (by kernel_rfl) (by kernel_rfl) (by kernel_rfl) (by kernel_rfl) (fun _ _ _ h => h) (Or.inl ⟨by rfl, Or.inl ?hy47⟩) ?rest47
        case hy47 => (intro w' kk ss; obtain ⟨u0, u1, u2⟩ := HC.out _ (hr0.trans kk); go_simp; first | done | with_reducible rfl)
        try simp only [Act.put, List.setIfInBounds_toArray, List.set_cons_zero, List.set_cons_succ]
        refine' Reg.wpG_take (i := 6) (oi := { dst := some 7, op := Op.assign (Operand.tmp 34), type := 2, pos := "law.go:69", after := #[{ on := 1, ground := Ground.data }, { on := 0, ground := Ground.phase }, { on := 1, ground := Ground.phase }, { on := 2, ground := Ground.textOnly Departure.lateStores }, { on := 3, ground := Ground.textOnly Departure.lateStores }, { on := 4, ground := Ground.textOnly Departure.lateStores }, { on := 5, ground := Ground.textOnly Departure.lateStores }], guard := none }) (v := _) [7, 8] [] rfl rfl (by kernel_rfl) (by kernel_rfl) (by kernel_rfl) (by kernel_rfl) (by kernel_rfl) (by kernel_rfl) (by kernel_rfl) (fun _ _ _ h => h) (Or.inl ⟨by rfl, Or.inl ?hy48⟩) ?rest48
        case hy48 => (intro w' kk ss; obtain ⟨u0, u1, u2⟩ := HC.out _ (hr0.trans kk); go_simp; first | done | with_reducible rfl)
        try simp only [Act.put, List.setIfInBounds_toArray, List.set_cons_zero, List.set_cons_succ]
        refine' Reg.wpG_take (i := 7) (oi := { dst := some 8, op := Op.assign (Operand.tmp 36), type := 2, pos := "law.go:69", after := #[{ on := 3, ground := Ground.data }, { on := 6, ground := Ground.chain }, { on := 0, ground := Ground.phase }, { on := 1, ground := Ground.phase }, { on := 2, ground := Ground.phase }, { on := 3, ground := Ground.phase }, { on := 4, ground := Ground.textOnly Departure.lateStores }, { on := 5, ground := Ground.textOnly Departure.lateStores }, { on := 6, ground := Ground.phase }], guard := none }) (v := _) [8] [] rfl rfl (by kernel_rfl) (by kernel_rfl) (by kernel_rfl) (by kernel_rfl) (by kernel_rfl) (by kernel_rfl) (by kernel_rfl) (fun _ _ _ h => h) (Or.inl ⟨by rfl, Or.inl ?hy49⟩) ?rest49
        case hy49 => (intro w' kk ss; obtain ⟨u0, u1, u2⟩ := HC.out _ (hr0.trans kk); go_simp; first | done | with_reducible rfl)
        try simp only [Act.put, List.setIfInBounds_toArray, List.set_cons_zero, List.set_cons_succ]
        refine' Reg.wpG_take (i := 8) (oi := { dst := some 9, op := Op.assign (Operand.tmp 38), type := 2, pos := "law.go:69", after := #[{ on := 5, ground := Ground.data }, { on := 7, ground := Ground.chain }, { on := 0, ground := Ground.phase }, { on := 1, ground := Ground.phase }, { on := 2, ground := Ground.phase }, { on := 3, ground := Ground.phase }, { on := 4, ground := Ground.phase }, { on := 5, ground := Ground.phase }, { on := 6, ground := Ground.phase }, { on := 7, ground := Ground.phase }], guard := none }) (v := _) [] [] rfl rfl (by kernel_rfl) (by kernel_rfl) (by kernel_rfl) (by kernel_rfl) (by kernel_rfl) (by kernel_rfl) (by kernel_rfl) (fun _ _ _ h => h) (Or.inl ⟨by rfl, Or.inl ?hy50⟩) ?rest50
        case hy50 => (intro w' kk ss; obtain ⟨u0, u1, u2⟩ := HC.out _ (hr0.trans kk); go_simp; first | done | with_reducible rfl)
        try simp only [Act.put, List.setIfInBounds_toArray, List.set_cons_zero, List.set_cons_succ]
        refine Reg.wpG_done (by kernel_rfl) (fun wq ke se => ?_) _
        refine NoPanic.normal ?_
        have hr0 := hr0.trans ke
        clear ke
        have KQ := K3.trans hr0
        clear hr0
        go_wp2_with (first
          | (go_at_call 24; (with_reducible refine (CA.out _ KQ).mono ?_); rintro e w11 ⟨A11, m11, c11, rfl, -, hc, k11⟩; have K11 := KQ.trans k11)
          | (go_at_call 26; (with_reducible refine (UA.out _ K11).mono ?_); rintro e w12 ⟨A12, m12, c12, rfl, -, hu, k12⟩; have K12 := K11.trans k12)
          | (go_at_call 28; (with_reducible refine (XA.out _ K12).mono ?_); rintro e w13 ⟨A13, m13, c13, rfl, -, hm, k13⟩; have K13 := K12.trans k13)
          | (go_at_call 14; (with_reducible refine (RC.out _ _ (hc.since stR (k12.trans k13))).mono ?_); rintro e w14 ⟨rfl, k14⟩; have K14 := K13.trans k14)
          | (go_at_call 14; (with_reducible refine (RU.out _ _ (hu.since stR (k13.trans k14))).mono ?_); rintro e w15 ⟨rfl, k15⟩; have K15 := K14.trans k15)
          | (go_at_call 14; (with_reducible refine (RX.out _ _ (hm.since stR (k14.trans k15))).mono ?_); rintro e w16 ⟨rfl, k16⟩; have K16 := K15.trans k16)
          | (go_at_call 20; (with_reducible refine (HC1.out _ _ (hc.since stR ((((k12.trans k13).trans k14).trans k15).trans k16))).mono ?_); rintro e w17 ⟨rfl, k17⟩; have K17 := K16.trans k17)
          | (go_at_call 20; (with_reducible refine (HA.out _ K17).mono ?_); rintro e w18 ⟨rfl, k18⟩; have K18 := K17.trans k18)
          | (go_at_call 20; (with_reducible refine (HU.out _ _ (hu.since stR (((((k13.trans k14).trans k15).trans k16).trans k17).trans k18))).mono ?_); rintro e w19 ⟨rfl, k19⟩; have K19 := K18.trans k19)
          | (go_at_call 20; (with_reducible refine (HA.out _ K19).mono ?_); rintro e w20 ⟨rfl, k20⟩; have K20 := K19.trans k20)
          | (go_at_call 20; (with_reducible refine (HX.out _ _ (hm.since stR ((((((k14.trans k15).trans k16).trans k17).trans k18).trans k19).trans k20))).mono ?_); rintro e w21 ⟨rfl, k21⟩; have K21 := K20.trans k21)
          | (go_at_call 20; (with_reducible refine (HA.out _ K21).mono ?_); rintro e w22 ⟨rfl, k22⟩; have K22 := K21.trans k22))
        go_ret
        exact ⟨by first | (simp; done) | (simp; omega), K22⟩
      | true =>
        rw [ha, Bool.true_and] at eC eU eX
        rw [ha] at HA
        clear ha
        by_cases c1 : z2 ≥ x2
        · rw [show decide (x2 ≤ z2) = true from decide_eq_true c1, Bool.true_and] at eC
          by_cases c2 : z2 ≤ y2
          · rw [decide_eq_true c2] at eC
            by_cases c3 : z2 = x2
            · have n3 : (z2 != x2) = false := by rw [c3, bne_self_eq_false]
              rw [show (!decide (z2 = x2)) = false by simp [c3]] at eU
              clear c3
              cases hb : has z1 z2 with
              | false =>
                rw [hb] at eX HH
                rw [eC] at HC1
                rw [eU] at HU
                rw [eX] at HX
                clear eC eU eX
                clear hb
                subst hW0
                go_enter Try.func6, Try.ntmps6
                go_wp2_with (first
                  | (go_at_call 10; (with_reducible refine AL.out.mono ?_); rintro e w1 ⟨rfl, k1⟩; have K1 := K00.out.trans k1)
                  | (go_at_call 14; (with_reducible refine (R0.out _ K1).mono ?_); rintro e w2 ⟨rfl, k2⟩; have K2 := K1.trans k2)
                  | (go_at_call 14; (with_reducible refine (R1.out _ K2).mono ?_); rintro e w3 ⟨rfl, k3⟩; have K3 := K2.trans k3))
                have HC := Lib.hid (fun W (k : Since w3 W) => HB.out W ((k1.trans k2).trans (k3.trans k)))
                have hr0 : Since w3 w3.drew := Since.drew (Since.refl w3)
                refine wp_region_noPanic ?_
                refine Reg.wp_region_G (S := fun _ => True) (fun j => [].contains j) (by kernel_rfl) trivial ?_
                refine' Reg.wpG_take (i := 0) (oi := { dst := some 33, op := Op.indexAddr 44 (Operand.tmp 5) (Operand.const (Value.int IntKind.i64 0)), type := 0, pos := "law.go:69", after := #[], guard := none }) (v := _) [1, 6, 7, 8] [] rfl rfl (by kernel_rfl) (by kernel_rfl) (by kernel_rfl) (by kernel_rfl) (by kernel_rfl) (by kernel_rfl) (by kernel_rfl) (fun _ _ _ h => h) (Or.inl ⟨by rfl, Or.inl ?hy51⟩) ?rest51
                case hy51 => (intro w' kk ss; obtain ⟨u0, u1, u2⟩ := HC.out _ (hr0.trans kk); go_simp; first | done | with_reducible rfl)
                try simp only [Act.put, List.setIfInBounds_toArray, List.set_cons_zero, List.set_cons_succ]
                refine' Reg.wpG_take (i := 1) (oi := { dst := some 34, op := Op.load 2 (Operand.tmp 33), type := 2, pos := "law.go:69", after := #[{ on := 0, ground := Ground.data }], guard := none }) (v := _) [6, 7, 8] [] rfl rfl (by kernel_rfl) (by kernel_rfl) (by kernel_rfl) (by kernel_rfl) (by kernel_rfl) (by kernel_rfl) (by kernel_rfl) (fun _ _ _ h => h) (Or.inl ⟨by rfl, Or.inl ?hy52⟩) ?rest52
                case hy52 => (intro w' kk ss; obtain ⟨u0, u1, u2⟩ := HC.out _ (hr0.trans kk); go_simp; first | done | with_reducible rfl)
                try simp only [Act.put, List.setIfInBounds_toArray, List.set_cons_zero, List.set_cons_succ]
                refine' Reg.wpG_take (i := 2) (oi := { dst := some 35, op := Op.indexAddr 44 (Operand.tmp 5) (Operand.const (Value.int IntKind.i64 1)), type := 0, pos := "law.go:69", after := #[{ on := 6, ground := Ground.gcOnly Departure.lateStores }], guard := none }) (v := _) [3, 7, 8] [] rfl rfl (by kernel_rfl) (by kernel_rfl) (by kernel_rfl) (by kernel_rfl) (by kernel_rfl) (by kernel_rfl) (by kernel_rfl) (fun _ _ _ h => h) (Or.inl ⟨by rfl, Or.inl ?hy53⟩) ?rest53
                case hy53 => (intro w' kk ss; obtain ⟨u0, u1, u2⟩ := HC.out _ (hr0.trans kk); go_simp; first | done | with_reducible rfl)
                try simp only [Act.put, List.setIfInBounds_toArray, List.set_cons_zero, List.set_cons_succ]
                refine' Reg.wpG_take (i := 3) (oi := { dst := some 36, op := Op.load 2 (Operand.tmp 35), type := 2, pos := "law.go:69", after := #[{ on := 2, ground := Ground.data }, { on := 6, ground := Ground.gcOnly Departure.lateStores }], guard := none }) (v := _) [7, 8] [] rfl rfl (by kernel_rfl) (by kernel_rfl) (by kernel_rfl) (by kernel_rfl) (by kernel_rfl) (by kernel_rfl) (by kernel_rfl) (fun _ _ _ h => h) (Or.inl ⟨by rfl, Or.inl ?hy54⟩) ?rest54
                case hy54 => (intro w' kk ss; obtain ⟨u0, u1, u2⟩ := HC.out _ (hr0.trans kk); go_simp; first | done | with_reducible rfl)
                try simp only [Act.put, List.setIfInBounds_toArray, List.set_cons_zero, List.set_cons_succ]
                refine' Reg.wpG_take (i := 4) (oi := { dst := some 37, op := Op.indexAddr 44 (Operand.tmp 5) (Operand.const (Value.int IntKind.i64 2)), type := 0, pos := "law.go:69", after := #[{ on := 7, ground := Ground.gcOnly Departure.lateStores }], guard := none }) (v := _) [5, 8] [] rfl rfl (by kernel_rfl) (by kernel_rfl) (by kernel_rfl) (by kernel_rfl) (by kernel_rfl) (by kernel_rfl) (by kernel_rfl) (fun _ _ _ h => h) (Or.inl ⟨by rfl, Or.inl ?hy55⟩) ?rest55
                case hy55 => (intro w' kk ss; obtain ⟨u0, u1, u2⟩ := HC.out _ (hr0.trans kk); go_simp; first | done | with_reducible rfl)
                try simp only [Act.put, List.setIfInBounds_toArray, List.set_cons_zero, List.set_cons_succ]
                refine' Reg.wpG_take (i := 5) (oi := { dst := some 38, op := Op.load 2 (Operand.tmp 37), type := 2, pos := "law.go:69", after := #[{ on := 4, ground := Ground.data }, { on := 7, ground := Ground.gcOnly Departure.lateStores }], guard := none }) (v := _) [8] [] rfl rfl (by kernel_rfl) (by kernel_rfl) (by kernel_rfl) (by kernel_rfl) (by kernel_rfl) (by kernel_rfl) (by kernel_rfl) (fun _ _ _ h => h) (Or.inl ⟨by rfl, Or.inl ?hy56⟩) ?rest56
                case hy56 => (intro w' kk ss; obtain ⟨u0, u1, u2⟩ := HC.out _ (hr0.trans kk); go_simp; first | done | with_reducible rfl)
                try simp only [Act.put, List.setIfInBounds_toArray, List.set_cons_zero, List.set_cons_succ]
                refine' Reg.wpG_take (i := 6) (oi := { dst := some 7, op := Op.assign (Operand.tmp 34), type := 2, pos := "law.go:69", after := #[{ on := 1, ground := Ground.data }, { on := 0, ground := Ground.phase }, { on := 1, ground := Ground.phase }, { on := 2, ground := Ground.textOnly Departure.lateStores }, { on := 3, ground := Ground.textOnly Departure.lateStores }, { on := 4, ground := Ground.textOnly Departure.lateStores }, { on := 5, ground := Ground.textOnly Departure.lateStores }], guard := none }) (v := _) [7, 8] [] rfl rfl (by kernel_rfl) (by kernel_rfl) (by kernel_rfl) (by kernel_rfl) (by kernel_rfl) (by kernel_rfl) (by kernel_rfl) (fun _ _ _ h => h) (Or.inl ⟨by rfl, Or.inl ?hy57⟩) ?rest57
                case hy57 => (intro w' kk ss; obtain ⟨u0, u1, u2⟩ := HC.out _ (hr0.trans kk); go_simp; first | done | with_reducible rfl)
                try simp only [Act.put, List.setIfInBounds_toArray, List.set_cons_zero, List.set_cons_succ]
                refine' Reg.wpG_take (i := 7) (oi := { dst := some 8, op := Op.assign (Operand.tmp 36), type := 2, pos := "law.go:69", after := #[{ on := 3, ground := Ground.data }, { on := 6, ground := Ground.chain }, { on := 0, ground := Ground.phase }, { on := 1, ground := Ground.phase }, { on := 2, ground := Ground.phase }, { on := 3, ground := Ground.phase }, { on := 4, ground := Ground.textOnly Departure.lateStores }, { on := 5, ground := Ground.textOnly Departure.lateStores }, { on := 6, ground := Ground.phase }], guard := none }) (v := _) [8] [] rfl rfl (by kernel_rfl) (by kernel_rfl) (by kernel_rfl) (by kernel_rfl) (by kernel_rfl) (by kernel_rfl) (by kernel_rfl) (fun _ _ _ h => h) (Or.inl ⟨by rfl, Or.inl ?hy58⟩) ?rest58
                case hy58 => (intro w' kk ss; obtain ⟨u0, u1, u2⟩ := HC.out _ (hr0.trans kk); go_simp; first | done | with_reducible rfl)
                try simp only [Act.put, List.setIfInBounds_toArray, List.set_cons_zero, List.set_cons_succ]
                refine' Reg.wpG_take (i := 8) (oi := { dst := some 9, op := Op.assign (Operand.tmp 38), type := 2, pos := "law.go:69", after := #[{ on := 5, ground := Ground.data }, { on := 7, ground := Ground.chain }, { on := 0, ground := Ground.phase }, { on := 1, ground := Ground.phase }, { on := 2, ground := Ground.phase }, { on := 3, ground := Ground.phase }, { on := 4, ground := Ground.phase }, { on := 5, ground := Ground.phase }, { on := 6, ground := Ground.phase }, { on := 7, ground := Ground.phase }], guard := none }) (v := _) [] [] rfl rfl (by kernel_rfl) (by kernel_rfl) (by kernel_rfl) (by kernel_rfl) (by kernel_rfl) (by kernel_rfl) (by kernel_rfl) (fun _ _ _ h => h) (Or.inl ⟨by rfl, Or.inl ?hy59⟩) ?rest59
                case hy59 => (intro w' kk ss; obtain ⟨u0, u1, u2⟩ := HC.out _ (hr0.trans kk); go_simp; first | done | with_reducible rfl)
                try simp only [Act.put, List.setIfInBounds_toArray, List.set_cons_zero, List.set_cons_succ]
                refine Reg.wpG_done (by kernel_rfl) (fun wq ke se => ?_) _
                refine NoPanic.normal ?_
                have hr0 := hr0.trans ke
                clear ke
                have KQ := K3.trans hr0
                clear hr0
                go_wp2_with (first
                  | (go_at_call 24; (with_reducible refine (CA.out _ KQ).mono ?_); rintro e w11 ⟨A11, m11, c11, rfl, -, hc, k11⟩; have K11 := KQ.trans k11)
                  | (go_at_call 26; (with_reducible refine (UA.out _ K11).mono ?_); rintro e w12 ⟨A12, m12, c12, rfl, -, hu, k12⟩; have K12 := K11.trans k12)
                  | (go_at_call 28; (with_reducible refine (XA.out _ K12).mono ?_); rintro e w13 ⟨A13, m13, c13, rfl, -, hm, k13⟩; have K13 := K12.trans k13)
                  | (go_at_call 14; (with_reducible refine (RC.out _ _ (hc.since stR (k12.trans k13))).mono ?_); rintro e w14 ⟨rfl, k14⟩; have K14 := K13.trans k14)
                  | (go_at_call 14; (with_reducible refine (RU.out _ _ (hu.since stR (k13.trans k14))).mono ?_); rintro e w15 ⟨rfl, k15⟩; have K15 := K14.trans k15)
                  | (go_at_call 14; (with_reducible refine (RX.out _ _ (hm.since stR (k14.trans k15))).mono ?_); rintro e w16 ⟨rfl, k16⟩; have K16 := K15.trans k16)
                  | (go_at_call 20; (with_reducible refine (HC1.out _ _ (hc.since stR ((((k12.trans k13).trans k14).trans k15).trans k16))).mono ?_); rintro e w17 ⟨rfl, k17⟩; have K17 := K16.trans k17)
                  | (go_at_call 20; (with_reducible refine (HA.out _ K17).mono ?_); rintro e w18 ⟨rfl, k18⟩; have K18 := K17.trans k18)
                  | (go_at_call 20; (with_reducible refine (HU.out _ _ (hu.since stR (((((k13.trans k14).trans k15).trans k16).trans k17).trans k18))).mono ?_); rintro e w19 ⟨rfl, k19⟩; have K19 := K18.trans k19)
                  | (go_at_call 20; (with_reducible refine (HA.out _ K19).mono ?_); rintro e w20 ⟨rfl, k20⟩; have K20 := K19.trans k20)
                  | (go_at_call 20; (with_reducible refine (HX.out _ _ (hm.since stR ((((((k14.trans k15).trans k16).trans k17).trans k18).trans k19).trans k20))).mono ?_); rintro e w21 ⟨rfl, k21⟩; have K21 := K20.trans k21)
                  | (go_at_call 20; (with_reducible refine (HA.out _ K21).mono ?_); rintro e w22 ⟨rfl, k22⟩; have K22 := K21.trans k22)
                  | (go_at_call 20; (with_reducible refine (HH.out _ K22).mono ?_); rintro e w23 ⟨rfl, k23⟩; have K23 := K22.trans k23))
                go_ret
                exact ⟨by first | (simp; done) | (simp; omega), K23⟩
              | true =>
                rw [hb] at eX HH
                rw [eC] at HC1
                rw [eU] at HU
                rw [eX] at HX
                clear eC eU eX
                clear hb
                subst hW0
                go_enter Try.func6, Try.ntmps6
                go_wp2_with (first
                  | (go_at_call 10; (with_reducible refine AL.out.mono ?_); rintro e w1 ⟨rfl, k1⟩; have K1 := K00.out.trans k1)
                  | (go_at_call 14; (with_reducible refine (R0.out _ K1).mono ?_); rintro e w2 ⟨rfl, k2⟩; have K2 := K1.trans k2)
                  | (go_at_call 14; (with_reducible refine (R1.out _ K2).mono ?_); rintro e w3 ⟨rfl, k3⟩; have K3 := K2.trans k3))
                have HC := Lib.hid (fun W (k : Since w3 W) => HB.out W ((k1.trans k2).trans (k3.trans k)))
                have hr0 : Since w3 w3.drew := Since.drew (Since.refl w3)
                refine wp_region_noPanic ?_
                refine Reg.wp_region_G (S := fun _ => True) (fun j => [].contains j) (by kernel_rfl) trivial ?_
                refine' Reg.wpG_take (i := 0) (oi := { dst := some 33, op := Op.indexAddr 44 (Operand.tmp 5) (Operand.const (Value.int IntKind.i64 0)), type := 0, pos := "law.go:69", after := #[], guard := none }) (v := _) [1, 6, 7, 8] [] rfl rfl (by kernel_rfl) (by kernel_rfl) (by kernel_rfl) (by kernel_rfl) (by kernel_rfl) (by kernel_rfl) (by kernel_rfl) (fun _ _ _ h => h) (Or.inl ⟨by rfl, Or.inl ?hy60⟩) ?rest60
                case hy60 => (intro w' kk ss; obtain ⟨u0, u1, u2⟩ := HC.out _ (hr0.trans kk); go_simp; first | done | with_reducible rfl)
                try simp only [Act.put, List.setIfInBounds_toArray, List.set_cons_zero, List.set_cons_succ]
                refine' Reg.wpG_take (i := 1) (oi := { dst := some 34, op := Op.load 2 (Operand.tmp 33), type := 2, pos := "law.go:69", after := #[{ on := 0, ground := Ground.data }], guard := none }) (v := _) [6, 7, 8] [] rfl rfl (by kernel_rfl) (by kernel_rfl) (by kernel_rfl) (by kernel_rfl) (by kernel_rfl) (by kernel_rfl) (by kernel_rfl) (fun _ _ _ h => h) (Or.inl ⟨by rfl, Or.inl ?hy61⟩) ?rest61
                case hy61 => (intro w' kk ss; obtain ⟨u0, u1, u2⟩ := HC.out _ (hr0.trans kk); go_simp; first | done | with_reducible rfl)
                try simp only [Act.put, List.setIfInBounds_toArray, List.set_cons_zero, List.set_cons_succ]
                refine' Reg.wpG_take (i := 2) (oi := { dst := some 35, op := Op.indexAddr 44 (Operand.tmp 5) (Operand.const (Value.int IntKind.i64 1)), type := 0, pos := "law.go:69", after := #[{ on := 6, ground := Ground.gcOnly Departure.lateStores }], guard := none }) (v := _) [3, 7, 8] [] rfl rfl (by kernel_rfl) (by kernel_rfl) (by kernel_rfl) (by kernel_rfl) (by kernel_rfl) (by kernel_rfl) (by kernel_rfl) (fun _ _ _ h => h) (Or.inl ⟨by rfl, Or.inl ?hy62⟩) ?rest62
                case hy62 => (intro w' kk ss; obtain ⟨u0, u1, u2⟩ := HC.out _ (hr0.trans kk); go_simp; first | done | with_reducible rfl)
                try simp only [Act.put, List.setIfInBounds_toArray, List.set_cons_zero, List.set_cons_succ]
                refine' Reg.wpG_take (i := 3) (oi := { dst := some 36, op := Op.load 2 (Operand.tmp 35), type := 2, pos := "law.go:69", after := #[{ on := 2, ground := Ground.data }, { on := 6, ground := Ground.gcOnly Departure.lateStores }], guard := none }) (v := _) [7, 8] [] rfl rfl (by kernel_rfl) (by kernel_rfl) (by kernel_rfl) (by kernel_rfl) (by kernel_rfl) (by kernel_rfl) (by kernel_rfl) (fun _ _ _ h => h) (Or.inl ⟨by rfl, Or.inl ?hy63⟩) ?rest63
                case hy63 => (intro w' kk ss; obtain ⟨u0, u1, u2⟩ := HC.out _ (hr0.trans kk); go_simp; first | done | with_reducible rfl)
                try simp only [Act.put, List.setIfInBounds_toArray, List.set_cons_zero, List.set_cons_succ]
                refine' Reg.wpG_take (i := 4) (oi := { dst := some 37, op := Op.indexAddr 44 (Operand.tmp 5) (Operand.const (Value.int IntKind.i64 2)), type := 0, pos := "law.go:69", after := #[{ on := 7, ground := Ground.gcOnly Departure.lateStores }], guard := none }) (v := _) [5, 8] [] rfl rfl (by kernel_rfl) (by kernel_rfl) (by kernel_rfl) (by kernel_rfl) (by kernel_rfl) (by kernel_rfl) (by kernel_rfl) (fun _ _ _ h => h) (Or.inl ⟨by rfl, Or.inl ?hy64⟩) ?rest64
                case hy64 => (intro w' kk ss; obtain ⟨u0, u1, u2⟩ := HC.out _ (hr0.trans kk); go_simp; first | done | with_reducible rfl)
                try simp only [Act.put, List.setIfInBounds_toArray, List.set_cons_zero, List.set_cons_succ]
                refine' Reg.wpG_take (i := 5) (oi := { dst := some 38, op := Op.load 2 (Operand.tmp 37), type := 2, pos := "law.go:69", after := #[{ on := 4, ground := Ground.data }, { on := 7, ground := Ground.gcOnly Departure.lateStores }], guard := none }) (v := _) [8] [] rfl rfl (by kernel_rfl) (by kernel_rfl) (by kernel_rfl) (by kernel_rfl) (by kernel_rfl) (by kernel_rfl) (by kernel_rfl) (fun _ _ _ h => h) (Or.inl ⟨by rfl, Or.inl ?hy65⟩) ?rest65
                case hy65 => (intro w' kk ss; obtain ⟨u0, u1, u2⟩ := HC.out _ (hr0.trans kk); go_simp; first | done | with_reducible rfl)
                try simp only [Act.put, List.setIfInBounds_toArray, List.set_cons_zero, List.set_cons_succ]
                refine' Reg.wpG_take (i := 6) (oi := { dst := some 7, op := Op.assign (Operand.tmp 34), type := 2, pos := "law.go:69", after := #[{ on := 1, ground := Ground.data }, { on := 0, ground := Ground.phase }, { on := 1, ground := Ground.phase }, { on := 2, ground := Ground.textOnly Departure.lateStores }, { on := 3, ground := Ground.textOnly Departure.lateStores }, { on := 4, ground := Ground.textOnly Departure.lateStores }, { on := 5, ground := Ground.textOnly Departure.lateStores }], guard := none }) (v := _) [7, 8] [] rfl rfl (by kernel_rfl) (by kernel_rfl) (by kernel_rfl) (by kernel_rfl) (by kernel_rfl) (by kernel_rfl) (by kernel_rfl) (fun _ _ _ h => h) (Or.inl ⟨by rfl, Or.inl ?hy66⟩) ?rest66
                case hy66 => (intro w' kk ss; obtain ⟨u0, u1, u2⟩ := HC.out _ (hr0.trans kk); go_simp; first | done | with_reducible rfl)
                try simp only [Act.put, List.setIfInBounds_toArray, List.set_cons_zero, List.set_cons_succ]
                refine' Reg.wpG_take (i := 7) (oi := { dst := some 8, op := Op.assign (Operand.tmp 36), type := 2, pos := "law.go:69", after := #[{ on := 3, ground := Ground.data }, { on := 6, ground := Ground.chain }, { on := 0, ground := Ground.phase }, { on := 1, ground := Ground.phase }, { on := 2, ground := Ground.phase }, { on := 3, ground := Ground.phase }, { on := 4, ground := Ground.textOnly Departure.lateStores }, { on := 5, ground := Ground.textOnly Departure.lateStores }, { on := 6, ground := Ground.phase }], guard := none }) (v := _) [8] [] rfl rfl (by kernel_rfl) (by kernel_rfl) (by kernel_rfl) (by kernel_rfl) (by kernel_rfl) (by kernel_rfl) (by kernel_rfl) (fun _ _ _ h => h) (Or.inl ⟨by rfl, Or.inl ?hy67⟩) ?rest67
                case hy67 => (intro w' kk ss; obtain ⟨u0, u1, u2⟩ := HC.out _ (hr0.trans kk); go_simp; first | done | with_reducible rfl)
                try simp only [Act.put, List.setIfInBounds_toArray, List.set_cons_zero, List.set_cons_succ]
                refine' Reg.wpG_take (i := 8) (oi := { dst := some 9, op := Op.assign (Operand.tmp 38), type := 2, pos := "law.go:69", after := #[{ on := 5, ground := Ground.data }, { on := 7, ground := Ground.chain }, { on := 0, ground := Ground.phase }, { on := 1, ground := Ground.phase }, { on := 2, ground := Ground.phase }, { on := 3, ground := Ground.phase }, { on := 4, ground := Ground.phase }, { on := 5, ground := Ground.phase }, { on := 6, ground := Ground.phase }, { on := 7, ground := Ground.phase }], guard := none }) (v := _) [] [] rfl rfl (by kernel_rfl) (by kernel_rfl) (by kernel_rfl) (by kernel_rfl) (by kernel_rfl) (by kernel_rfl) (by kernel_rfl) (fun _ _ _ h => h) (Or.inl ⟨by rfl, Or.inl ?hy68⟩) ?rest68
                case hy68 => (intro w' kk ss; obtain ⟨u0, u1, u2⟩ := HC.out _ (hr0.trans kk); go_simp; first | done | with_reducible rfl)
                try simp only [Act.put, List.setIfInBounds_toArray, List.set_cons_zero, List.set_cons_succ]
                refine Reg.wpG_done (by kernel_rfl) (fun wq ke se => ?_) _
                refine NoPanic.normal ?_
                have hr0 := hr0.trans ke
                clear ke
                have KQ := K3.trans hr0
                clear hr0
                go_wp2_with (first
                  | (go_at_call 24; (with_reducible refine (CA.out _ KQ).mono ?_); rintro e w11 ⟨A11, m11, c11, rfl, -, hc, k11⟩; have K11 := KQ.trans k11)
                  | (go_at_call 26; (with_reducible refine (UA.out _ K11).mono ?_); rintro e w12 ⟨A12, m12, c12, rfl, -, hu, k12⟩; have K12 := K11.trans k12)
                  | (go_at_call 28; (with_reducible refine (XA.out _ K12).mono ?_); rintro e w13 ⟨A13, m13, c13, rfl, -, hm, k13⟩; have K13 := K12.trans k13)
                  | (go_at_call 14; (with_reducible refine (RC.out _ _ (hc.since stR (k12.trans k13))).mono ?_); rintro e w14 ⟨rfl, k14⟩; have K14 := K13.trans k14)
                  | (go_at_call 14; (with_reducible refine (RU.out _ _ (hu.since stR (k13.trans k14))).mono ?_); rintro e w15 ⟨rfl, k15⟩; have K15 := K14.trans k15)
                  | (go_at_call 14; (with_reducible refine (RX.out _ _ (hm.since stR (k14.trans k15))).mono ?_); rintro e w16 ⟨rfl, k16⟩; have K16 := K15.trans k16)
                  | (go_at_call 20; (with_reducible refine (HC1.out _ _ (hc.since stR ((((k12.trans k13).trans k14).trans k15).trans k16))).mono ?_); rintro e w17 ⟨rfl, k17⟩; have K17 := K16.trans k17)
                  | (go_at_call 20; (with_reducible refine (HA.out _ K17).mono ?_); rintro e w18 ⟨rfl, k18⟩; have K18 := K17.trans k18)
                  | (go_at_call 20; (with_reducible refine (HU.out _ _ (hu.since stR (((((k13.trans k14).trans k15).trans k16).trans k17).trans k18))).mono ?_); rintro e w19 ⟨rfl, k19⟩; have K19 := K18.trans k19)
                  | (go_at_call 20; (with_reducible refine (HA.out _ K19).mono ?_); rintro e w20 ⟨rfl, k20⟩; have K20 := K19.trans k20)
                  | (go_at_call 20; (with_reducible refine (HX.out _ _ (hm.since stR ((((((k14.trans k15).trans k16).trans k17).trans k18).trans k19).trans k20))).mono ?_); rintro e w21 ⟨rfl, k21⟩; have K21 := K20.trans k21)
                  | (go_at_call 20; (with_reducible refine (HA.out _ K21).mono ?_); rintro e w22 ⟨rfl, k22⟩; have K22 := K21.trans k22)
                  | (go_at_call 20; (with_reducible refine (HH.out _ K22).mono ?_); rintro e w23 ⟨rfl, k23⟩; have K23 := K22.trans k23))
                go_ret
                exact ⟨by first | (simp; done) | (simp; omega), K23⟩
            · have n3 : (z2 != x2) = true := by rw [bne_iff_ne]; exact c3
              rw [show (!decide (z2 = x2)) = true by simp [c3]] at eU
              clear c3
              cases hb : has z1 z2 with
              | false =>
                rw [hb] at eX HH
                rw [eC] at HC1
                rw [eU] at HU
                rw [eX] at HX
                clear eC eU eX
                clear hb
                subst hW0
                go_enter Try.func6, Try.ntmps6
                go_wp2_with (first
                  | (go_at_call 10; (with_reducible refine AL.out.mono ?_); rintro e w1 ⟨rfl, k1⟩; have K1 := K00.out.trans k1)
                  | (go_at_call 14; (with_reducible refine (R0.out _ K1).mono ?_); rintro e w2 ⟨rfl, k2⟩; have K2 := K1.trans k2)
                  | (go_at_call 14; (with_reducible refine (R1.out _ K2).mono ?_); rintro e w3 ⟨rfl, k3⟩; have K3 := K2.trans k3))
                have HC := Lib.hid (fun W (k : Since w3 W) => HB.out W ((k1.trans k2).trans (k3.trans k)))
                have hr0 : Since w3 w3.drew := Since.drew (Since.refl w3)
                refine wp_region_noPanic ?_
                refine Reg.wp_region_G (S := fun _ => True) (fun j => [].contains j) (by kernel_rfl) trivial ?_
                refine' Reg.wpG_take (i := 0) (oi := { dst := some 33, op := Op.indexAddr 44 (Operand.tmp 5) (Operand.const (Value.int IntKind.i64 0)), type := 0, pos := "law.go:69", after := #[], guard := none }) (v := _) [1, 6, 7, 8] [] rfl rfl (by kernel_rfl) (by kernel_rfl) (by kernel_rfl) (by kernel_rfl) (by kernel_rfl) (by kernel_rfl) (by kernel_rfl) (fun _ _ _ h => h) (Or.inl ⟨by rfl, Or.inl ?hy69⟩) ?rest69
                case hy69 => (intro w' kk ss; obtain ⟨u0, u1, u2⟩ := HC.out _ (hr0.trans kk); go_simp; first | done | with_reducible rfl)
                try simp only [Act.put, List.setIfInBounds_toArray, List.set_cons_zero, List.set_cons_succ]
                refine' Reg.wpG_take (i := 1) (oi := { dst := some 34, op := Op.load 2 (Operand.tmp 33), type := 2, pos := "law.go:69", after := #[{ on := 0, ground := Ground.data }], guard := none }) (v := _) [6, 7, 8] [] rfl rfl (by kernel_rfl) (by kernel_rfl) (by kernel_rfl) (by kernel_rfl) (by kernel_rfl) (by kernel_rfl) (by kernel_rfl) (fun _ _ _ h => h) (Or.inl ⟨by rfl, Or.inl ?hy70⟩) ?rest70
                case hy70 => (intro w' kk ss; obtain ⟨u0, u1, u2⟩ := HC.out _ (hr0.trans kk); go_simp; first | done | with_reducible rfl)
                try simp only [Act.put, List.setIfInBounds_toArray, List.set_cons_zero, List.set_cons_succ]
                refine' Reg.wpG_take (i := 2) (oi := { dst := some 35, op := Op.indexAddr 44 (Operand.tmp 5) (Operand.const (Value.int IntKind.i64 1)), type := 0, pos := "law.go:69", after := #[{ on := 6, ground := Ground.gcOnly Departure.lateStores }], guard := none }) (v := _) [3, 7, 8] [] rfl rfl (by kernel_rfl) (by kernel_rfl) (by kernel_rfl) (by kernel_rfl) (by kernel_rfl) (by kernel_rfl) (by kernel_rfl) (fun _ _ _ h => h) (Or.inl ⟨by rfl, Or.inl ?hy71⟩) ?rest71
                case hy71 => (intro w' kk ss; obtain ⟨u0, u1, u2⟩ := HC.out _ (hr0.trans kk); go_simp; first | done | with_reducible rfl)
                try simp only [Act.put, List.setIfInBounds_toArray, List.set_cons_zero, List.set_cons_succ]
                refine' Reg.wpG_take (i := 3) (oi := { dst := some 36, op := Op.load 2 (Operand.tmp 35), type := 2, pos := "law.go:69", after := #[{ on := 2, ground := Ground.data }, { on := 6, ground := Ground.gcOnly Departure.lateStores }], guard := none }) (v := _) [7, 8] [] rfl rfl (by kernel_rfl) (by kernel_rfl) (by kernel_rfl) (by kernel_rfl) (by kernel_rfl) (by kernel_rfl) (by kernel_rfl) (fun _ _ _ h => h) (Or.inl ⟨by rfl, Or.inl ?hy72⟩) ?rest72
                case hy72 => (intro w' kk ss; obtain ⟨u0, u1, u2⟩ := HC.out _ (hr0.trans kk); go_simp; first | done | with_reducible rfl)
                try simp only [Act.put, List.setIfInBounds_toArray, List.set_cons_zero, List.set_cons_succ]
                refine' Reg.wpG_take (i := 4) (oi := { dst := some 37, op := Op.indexAddr 44 (Operand.tmp 5) (Operand.const (Value.int IntKind.i64 2)), type := 0, pos := "law.go:69", after := #[{ on := 7, ground := Ground.gcOnly Departure.lateStores }], guard := none }) (v := _) [5, 8] [] rfl rfl (by kernel_rfl) (by kernel_rfl) (by kernel_rfl) (by kernel_rfl) (by kernel_rfl) (by kernel_rfl) (by kernel_rfl) (fun _ _ _ h => h) (Or.inl ⟨by rfl, Or.inl ?hy73⟩) ?rest73
                case hy73 => (intro w' kk ss; obtain ⟨u0, u1, u2⟩ := HC.out _ (hr0.trans kk); go_simp; first | done | with_reducible rfl)
                try simp only [Act.put, List.setIfInBounds_toArray, List.set_cons_zero, List.set_cons_succ]
                refine' Reg.wpG_take (i := 5) (oi := { dst := some 38, op := Op.load 2 (Operand.tmp 37), type := 2, pos := "law.go:69", after := #[{ on := 4, ground := Ground.data }, { on := 7, ground := Ground.gcOnly Departure.lateStores }], guard := none }) (v := _) [8] [] rfl rfl (by kernel_rfl) (by kernel_rfl) (by kernel_rfl) (by kernel_rfl) (by kernel_rfl) (by kernel_rfl) (by kernel_rfl) (fun _ _ _ h => h) (Or.inl ⟨by rfl, Or.inl ?hy74⟩) ?rest74
                case hy74 => (intro w' kk ss; obtain ⟨u0, u1, u2⟩ := HC.out _ (hr0.trans kk); go_simp; first | done | with_reducible rfl)
                try simp only [Act.put, List.setIfInBounds_toArray, List.set_cons_zero, List.set_cons_succ]
                refine' Reg.wpG_take (i := 6) (oi := { dst := some 7, op := Op.assign (Operand.tmp 34), type := 2, pos := "law.go:69", after := #[{ on := 1, ground := Ground.data }, { on := 0, ground := Ground.phase }, { on := 1, ground := Ground.phase }, { on := 2, ground := Ground.textOnly Departure.lateStores }, { on := 3, ground := Ground.textOnly Departure.lateStores }, { on := 4, ground := Ground.textOnly Departure.lateStores }, { on := 5, ground := Ground.textOnly Departure.lateStores }], guard := none }) (v := _) [7, 8] [] rfl rfl (by kernel_rfl) (by kernel_rfl) (by kernel_rfl) (by kernel_rfl) (by kernel_rfl) (by kernel_rfl) (by kernel_rfl) (fun _ _ _ h => h) (Or.inl ⟨by rfl, Or.inl ?hy75⟩) ?rest75
                case hy75 => (intro w' kk ss; obtain ⟨u0, u1, u2⟩ := HC.out _ (hr0.trans kk); go_simp; first | done | with_reducible rfl)
                try simp only [Act.put, List.setIfInBounds_toArray, List.set_cons_zero, List.set_cons_succ]
                refine' Reg.wpG_take (i := 7) (oi := { dst := some 8, op := Op.assign (Operand.tmp 36), type := 2, pos := "law.go:69", after := #[{ on := 3, ground := Ground.data }, { on := 6, ground := Ground.chain }, { on := 0, ground := Ground.phase }, { on := 1, ground := Ground.phase }, { on := 2, ground := Ground.phase }, { on := 3, ground := Ground.phase }, { on := 4, ground := Ground.textOnly Departure.lateStores }, { on := 5, ground := Ground.textOnly Departure.lateStores }, { on := 6, ground := Ground.phase }], guard := none }) (v := _) [8] [] rfl rfl (by kernel_rfl) (by kernel_rfl) (by kernel_rfl) (by kernel_rfl) (by kernel_rfl) (by kernel_rfl) (by kernel_rfl) (fun _ _ _ h => h) (Or.inl ⟨by rfl, Or.inl ?hy76⟩) ?rest76
                case hy76 => (intro w' kk ss; obtain ⟨u0, u1, u2⟩ := HC.out _ (hr0.trans kk); go_simp; first | done | with_reducible rfl)
                try simp only [Act.put, List.setIfInBounds_toArray, List.set_cons_zero, List.set_cons_succ]
                refine' Reg.wpG_take (i := 8) (oi := { dst := some 9, op := Op.assign (Operand.tmp 38), type := 2, pos := "law.go:69", after := #[{ on := 5, ground := Ground.data }, { on := 7, ground := Ground.chain }, { on := 0, ground := Ground.phase }, { on := 1, ground := Ground.phase }, { on := 2, ground := Ground.phase }, { on := 3, ground := Ground.phase }, { on := 4, ground := Ground.phase }, { on := 5, ground := Ground.phase }, { on := 6, ground := Ground.phase }, { on := 7, ground := Ground.phase }], guard := none }) (v := _) [] [] rfl rfl (by kernel_rfl) (by kernel_rfl) (by kernel_rfl) (by kernel_rfl) (by kernel_rfl) (by kernel_rfl) (by kernel_rfl) (fun _ _ _ h => h) (Or.inl ⟨by rfl, Or.inl ?hy77⟩) ?rest77
                case hy77 => (intro w' kk ss; obtain ⟨u0, u1, u2⟩ := HC.out _ (hr0.trans kk); go_simp; first | done | with_reducible rfl)
                try simp only [Act.put, List.setIfInBounds_toArray, List.set_cons_zero, List.set_cons_succ]
                refine Reg.wpG_done (by kernel_rfl) (fun wq ke se => ?_) _
                refine NoPanic.normal ?_
                have hr0 := hr0.trans ke
                clear ke
                have KQ := K3.trans hr0
                clear hr0
                go_wp2_with (first
                  | (go_at_call 24; (with_reducible refine (CA.out _ KQ).mono ?_); rintro e w11 ⟨A11, m11, c11, rfl, -, hc, k11⟩; have K11 := KQ.trans k11)
                  | (go_at_call 26; (with_reducible refine (UA.out _ K11).mono ?_); rintro e w12 ⟨A12, m12, c12, rfl, -, hu, k12⟩; have K12 := K11.trans k12)
                  | (go_at_call 28; (with_reducible refine (XA.out _ K12).mono ?_); rintro e w13 ⟨A13, m13, c13, rfl, -, hm, k13⟩; have K13 := K12.trans k13)
                  | (go_at_call 14; (with_reducible refine (RC.out _ _ (hc.since stR (k12.trans k13))).mono ?_); rintro e w14 ⟨rfl, k14⟩; have K14 := K13.trans k14)
                  | (go_at_call 14; (with_reducible refine (RU.out _ _ (hu.since stR (k13.trans k14))).mono ?_); rintro e w15 ⟨rfl, k15⟩; have K15 := K14.trans k15)
                  | (go_at_call 14; (with_reducible refine (RX.out _ _ (hm.since stR (k14.trans k15))).mono ?_); rintro e w16 ⟨rfl, k16⟩; have K16 := K15.trans k16)
                  | (go_at_call 20; (with_reducible refine (HC1.out _ _ (hc.since stR ((((k12.trans k13).trans k14).trans k15).trans k16))).mono ?_); rintro e w17 ⟨rfl, k17⟩; have K17 := K16.trans k17)
                  | (go_at_call 20; (with_reducible refine (HA.out _ K17).mono ?_); rintro e w18 ⟨rfl, k18⟩; have K18 := K17.trans k18)
                  | (go_at_call 20; (with_reducible refine (HU.out _ _ (hu.since stR (((((k13.trans k14).trans k15).trans k16).trans k17).trans k18))).mono ?_); rintro e w19 ⟨rfl, k19⟩; have K19 := K18.trans k19)
                  | (go_at_call 20; (with_reducible refine (HA.out _ K19).mono ?_); rintro e w20 ⟨rfl, k20⟩; have K20 := K19.trans k20)
                  | (go_at_call 20; (with_reducible refine (HX.out _ _ (hm.since stR ((((((k14.trans k15).trans k16).trans k17).trans k18).trans k19).trans k20))).mono ?_); rintro e w21 ⟨rfl, k21⟩; have K21 := K20.trans k21)
                  | (go_at_call 20; (with_reducible refine (HA.out _ K21).mono ?_); rintro e w22 ⟨rfl, k22⟩; have K22 := K21.trans k22)
                  | (go_at_call 20; (with_reducible refine (HH.out _ K22).mono ?_); rintro e w23 ⟨rfl, k23⟩; have K23 := K22.trans k23))
                go_ret
                exact ⟨by first | (simp; done) | (simp; omega), K23⟩
              | true =>
                rw [hb] at eX HH
                rw [eC] at HC1
                rw [eU] at HU
                rw [eX] at HX
                clear eC eU eX
                clear hb
                subst hW0
                go_enter Try.func6, Try.ntmps6
                go_wp2_with (first
                  | (go_at_call 10; (with_reducible refine AL.out.mono ?_); rintro e w1 ⟨rfl, k1⟩; have K1 := K00.out.trans k1)
                  | (go_at_call 14; (with_reducible refine (R0.out _ K1).mono ?_); rintro e w2 ⟨rfl, k2⟩; have K2 := K1.trans k2)
                  | (go_at_call 14; (with_reducible refine (R1.out _ K2).mono ?_); rintro e w3 ⟨rfl, k3⟩; have K3 := K2.trans k3))
                have HC := Lib.hid (fun W (k : Since w3 W) => HB.out W ((k1.trans k2).trans (k3.trans k)))
                have hr0 : Since w3 w3.drew := Since.drew (Since.refl w3)
                refine wp_region_noPanic ?_
                refine Reg.wp_region_G (S := fun _ => True) (fun j => [].contains j) (by kernel_rfl) trivial ?_
                refine' Reg.wpG_take (i := 0) (oi := { dst := some 33, op := Op.indexAddr 44 (Operand.tmp 5) (Operand.const (Value.int IntKind.i64 0)), type := 0, pos := "law.go:69", after := #[], guard := none }) (v := _) [1, 6, 7, 8] [] rfl rfl (by kernel_rfl) (by kernel_rfl) (by kernel_rfl) (by kernel_rfl) (by kernel_rfl) (by kernel_rfl) (by kernel_rfl) (fun _ _ _ h => h) (Or.inl ⟨by rfl, Or.inl ?hy78⟩) ?rest78
                case hy78 => (intro w' kk ss; obtain ⟨u0, u1, u2⟩ := HC.out _ (hr0.trans kk); go_simp; first | done | with_reducible rfl)
                try simp only [Act.put, List.setIfInBounds_toArray, List.set_cons_zero, List.set_cons_succ]
                refine' Reg.wpG_take (i := 1) (oi := { dst := some 34, op := Op.load 2 (Operand.tmp 33), type := 2, pos := "law.go:69", after := #[{ on := 0, ground := Ground.data }], guard := none }) (v := _) [6, 7, 8] [] rfl rfl (by kernel_rfl) (by kernel_rfl) (by kernel_rfl) (by kernel_rfl) (by kernel_rfl) (by kernel_rfl) (by kernel_rfl) (fun _ _ _ h => h) (Or.inl ⟨by rfl, Or.inl ?hy79⟩) ?rest79
                case hy79 => (intro w' kk ss; obtain ⟨u0, u1, u2⟩ := HC.out _ (hr0.trans kk); go_simp; first | done | with_reducible rfl)
                try simp only [Act.put, List.setIfInBounds_toArray, List.set_cons_zero, List.set_cons_succ]
                refine' Reg.wpG_take (i := 2) (oi := { dst := some 35, op := Op.indexAddr 44 (Operand.tmp 5) (Operand.const (Value.int IntKind.i64 1)), type := 0, pos := "law.go:69", after := #[{ on := 6, ground := Ground.gcOnly Departure.lateStores }], guard := none }) (v := _) [3, 7, 8] [] rfl rfl (by kernel_rfl) (by kernel_rfl) (by kernel_rfl) (by kernel_rfl) (by kernel_rfl) (by kernel_rfl) (by kernel_rfl) (fun _ _ _ h => h) (Or.inl ⟨by rfl, Or.inl ?hy80⟩) ?rest80
                case hy80 => (intro w' kk ss; obtain ⟨u0, u1, u2⟩ := HC.out _ (hr0.trans kk); go_simp; first | done | with_reducible rfl)
                try simp only [Act.put, List.setIfInBounds_toArray, List.set_cons_zero, List.set_cons_succ]
                refine' Reg.wpG_take (i := 3) (oi := { dst := some 36, op := Op.load 2 (Operand.tmp 35), type := 2, pos := "law.go:69", after := #[{ on := 2, ground := Ground.data }, { on := 6, ground := Ground.gcOnly Departure.lateStores }], guard := none }) (v := _) [7, 8] [] rfl rfl (by kernel_rfl) (by kernel_rfl) (by kernel_rfl) (by kernel_rfl) (by kernel_rfl) (by kernel_rfl) (by kernel_rfl) (fun _ _ _ h => h) (Or.inl ⟨by rfl, Or.inl ?hy81⟩) ?rest81
                case hy81 => (intro w' kk ss; obtain ⟨u0, u1, u2⟩ := HC.out _ (hr0.trans kk); go_simp; first | done | with_reducible rfl)
                try simp only [Act.put, List.setIfInBounds_toArray, List.set_cons_zero, List.set_cons_succ]
                refine' Reg.wpG_take (i := 4) (oi := { dst := some 37, op := Op.indexAddr 44 (Operand.tmp 5) (Operand.const (Value.int IntKind.i64 2)), type := 0, pos := "law.go:69", after := #[{ on := 7, ground := Ground.gcOnly Departure.lateStores }], guard := none }) (v := _) [5, 8] [] rfl rfl (by kernel_rfl) (by kernel_rfl) (by kernel_rfl) (by kernel_rfl) (by kernel_rfl) (by kernel_rfl) (by kernel_rfl) (fun _ _ _ h => h) (Or.inl ⟨by rfl, Or.inl ?hy82⟩) ?rest82
                case hy82 => (intro w' kk ss; obtain ⟨u0, u1, u2⟩ := HC.out _ (hr0.trans kk); go_simp; first | done | with_reducible rfl)
                try simp only [Act.put, List.setIfInBounds_toArray, List.set_cons_zero, List.set_cons_succ]
                refine' Reg.wpG_take (i := 5) (oi := { dst := some 38, op := Op.load 2 (Operand.tmp 37), type := 2, pos := "law.go:69", after := #[{ on := 4, ground := Ground.data }, { on := 7, ground := Ground.gcOnly Departure.lateStores }], guard := none }) (v := _) [8] [] rfl rfl (by kernel_rfl) (by kernel_rfl) (by kernel_rfl) (by kernel_rfl) (by kernel_rfl) (by kernel_rfl) (by kernel_rfl) (fun _ _ _ h => h) (Or.inl ⟨by rfl, Or.inl ?hy83⟩) ?rest83
                case hy83 => (intro w' kk ss; obtain ⟨u0, u1, u2⟩ := HC.out _ (hr0.trans kk); go_simp; first | done | with_reducible rfl)
                try simp only [Act.put, List.setIfInBounds_toArray, List.set_cons_zero, List.set_cons_succ]
                refine' Reg.wpG_take (i := 6) (oi := { dst := some 7, op := Op.assign (Operand.tmp 34), type := 2, pos := "law.go:69", after := #[{ on := 1, ground := Ground.data }, { on := 0, ground := Ground.phase }, { on := 1, ground := Ground.phase }, { on := 2, ground := Ground.textOnly Departure.lateStores }, { on := 3, ground := Ground.textOnly Departure.lateStores }, { on := 4, ground := Ground.textOnly Departure.lateStores }, { on := 5, ground := Ground.textOnly Departure.lateStores }], guard := none }) (v := _) [7, 8] [] rfl rfl (by kernel_rfl) (by kernel_rfl) (by kernel_rfl) (by kernel_rfl) (by kernel_rfl) (by kernel_rfl) (by kernel_rfl) (fun _ _ _ h => h) (Or.inl ⟨by rfl, Or.inl ?hy84⟩) ?rest84
                case hy84 => (intro w' kk ss; obtain ⟨u0, u1, u2⟩ := HC.out _ (hr0.trans kk); go_simp; first | done | with_reducible rfl)
                try simp only [Act.put, List.setIfInBounds_toArray, List.set_cons_zero, List.set_cons_succ]
                refine' Reg.wpG_take (i := 7) (oi := { dst := some 8, op := Op.assign (Operand.tmp 36), type := 2, pos := "law.go:69", after := #[{ on := 3, ground := Ground.data }, { on := 6, ground := Ground.chain }, { on := 0, ground := Ground.phase }, { on := 1, ground := Ground.phase }, { on := 2, ground := Ground.phase }, { on := 3, ground := Ground.phase }, { on := 4, ground := Ground.textOnly Departure.lateStores }, { on := 5, ground := Ground.textOnly Departure.lateStores }, { on := 6, ground := Ground.phase }], guard := none }) (v := _) [8] [] rfl rfl (by kernel_rfl) (by kernel_rfl) (by kernel_rfl) (by kernel_rfl) (by kernel_rfl) (by kernel_rfl) (by kernel_rfl) (fun _ _ _ h => h) (Or.inl ⟨by rfl, Or.inl ?hy85⟩) ?rest85
                case hy85 => (intro w' kk ss; obtain ⟨u0, u1, u2⟩ := HC.out _ (hr0.trans kk); go_simp; first | done | with_reducible rfl)
                try simp only [Act.put, List.setIfInBounds_toArray, List.set_cons_zero, List.set_cons_succ]
                refine' Reg.wpG_take (i := 8) (oi := { dst := some 9, op := Op.assign (Operand.tmp 38), type := 2, pos := "law.go:69", after := #[{ on := 5, ground := Ground.data }, { on := 7, ground := Ground.chain }, { on := 0, ground := Ground.phase }, { on := 1, ground := Ground.phase }, { on := 2, ground := Ground.phase }, { on := 3, ground := Ground.phase }, { on := 4, ground := Ground.phase }, { on := 5, ground := Ground.phase }, { on := 6, ground := Ground.phase }, { on := 7, ground := Ground.phase }], guard := none }) (v := _) [] [] rfl rfl (by kernel_rfl) (by kernel_rfl) (by kernel_rfl) (by kernel_rfl) (by kernel_rfl) (by kernel_rfl) (by kernel_rfl) (fun _ _ _ h => h) (Or.inl ⟨by rfl, Or.inl ?hy86⟩) ?rest86
                case hy86 => (intro w' kk ss; obtain ⟨u0, u1, u2⟩ := HC.out _ (hr0.trans kk); go_simp; first | done | with_reducible rfl)
                try simp only [Act.put, List.setIfInBounds_toArray, List.set_cons_zero, List.set_cons_succ]
                refine Reg.wpG_done (by kernel_rfl) (fun wq ke se => ?_) _
                refine NoPanic.normal ?_
                have hr0 := hr0.trans ke
                clear ke
                have KQ := K3.trans hr0
                clear hr0
                go_wp2_with (first
                  | (go_at_call 24; (with_reducible refine (CA.out _ KQ).mono ?_); rintro e w11 ⟨A11, m11, c11, rfl, -, hc, k11⟩; have K11 := KQ.trans k11)
                  | (go_at_call 26; (with_reducible refine (UA.out _ K11).mono ?_); rintro e w12 ⟨A12, m12, c12, rfl, -, hu, k12⟩; have K12 := K11.trans k12)
                  | (go_at_call 28; (with_reducible refine (XA.out _ K12).mono ?_); rintro e w13 ⟨A13, m13, c13, rfl, -, hm, k13⟩; have K13 := K12.trans k13)
                  | (go_at_call 14; (with_reducible refine (RC.out _ _ (hc.since stR (k12.trans k13))).mono ?_); rintro e w14 ⟨rfl, k14⟩; have K14 := K13.trans k14)
                  | (go_at_call 14; (with_reducible refine (RU.out _ _ (hu.since stR (k13.trans k14))).mono ?_); rintro e w15 ⟨rfl, k15⟩; have K15 := K14.trans k15)
                  | (go_at_call 14; (with_reducible refine (RX.out _ _ (hm.since stR (k14.trans k15))).mono ?_); rintro e w16 ⟨rfl, k16⟩; have K16 := K15.trans k16)
                  | (go_at_call 20; (with_reducible refine (HC1.out _ _ (hc.since stR ((((k12.trans k13).trans k14).trans k15).trans k16))).mono ?_); rintro e w17 ⟨rfl, k17⟩; have K17 := K16.trans k17)
                  | (go_at_call 20; (with_reducible refine (HA.out _ K17).mono ?_); rintro e w18 ⟨rfl, k18⟩; have K18 := K17.trans k18)
                  | (go_at_call 20; (with_reducible refine (HU.out _ _ (hu.since stR (((((k13.trans k14).trans k15).trans k16).trans k17).trans k18))).mono ?_); rintro e w19 ⟨rfl, k19⟩; have K19 := K18.trans k19)
                  | (go_at_call 20; (with_reducible refine (HA.out _ K19).mono ?_); rintro e w20 ⟨rfl, k20⟩; have K20 := K19.trans k20)
                  | (go_at_call 20; (with_reducible refine (HX.out _ _ (hm.since stR ((((((k14.trans k15).trans k16).trans k17).trans k18).trans k19).trans k20))).mono ?_); rintro e w21 ⟨rfl, k21⟩; have K21 := K20.trans k21)
                  | (go_at_call 20; (with_reducible refine (HA.out _ K21).mono ?_); rintro e w22 ⟨rfl, k22⟩; have K22 := K21.trans k22)
                  | (go_at_call 20; (with_reducible refine (HH.out _ K22).mono ?_); rintro e w23 ⟨rfl, k23⟩; have K23 := K22.trans k23))
                go_ret
                exact ⟨by first | (simp; done) | (simp; omega), K23⟩
          · rw [decide_eq_false c2] at eC
            by_cases c3 : z2 = x2
            · have n3 : (z2 != x2) = false := by rw [c3, bne_self_eq_false]
              rw [show (!decide (z2 = x2)) = false by simp [c3]] at eU
              clear c3
              cases hb : has z1 z2 with
              | false =>
                rw [hb] at eX HH
                rw [eC] at HC1
                rw [eU] at HU
                rw [eX] at HX
                clear eC eU eX
                clear hb
                subst hW0
                go_enter Try.func6, Try.ntmps6
                go_wp2_with (first
                  | (go_at_call 10; (with_reducible refine AL.out.mono ?_); rintro e w1 ⟨rfl, k1⟩; have K1 := K00.out.trans k1)
                  | (go_at_call 14; (with_reducible refine (R0.out _ K1).mono ?_); rintro e w2 ⟨rfl, k2⟩; have K2 := K1.trans k2)
                  | (go_at_call 14; (with_reducible refine (R1.out _ K2).mono ?_); rintro e w3 ⟨rfl, k3⟩; have K3 := K2.trans k3))
                have HC := Lib.hid (fun W (k : Since w3 W) => HB.out W ((k1.trans k2).trans (k3.trans k)))
                have hr0 : Since w3 w3.drew := Since.drew (Since.refl w3)
                refine wp_region_noPanic ?_
                refine Reg.wp_region_G (S := fun _ => True) (fun j => [].contains j) (by kernel_rfl) trivial ?_
                refine' Reg.wpG_take (i := 0) (oi := { dst := some 33, op := Op.indexAddr 44 (Operand.tmp 5) (Operand.const (Value.int IntKind.i64 0)), type := 0, pos := "law.go:69", after := #[], guard := none }) (v := _) [1, 6, 7, 8] [] rfl rfl (by kernel_rfl) (by kernel_rfl) (by kernel_rfl) (by kernel_rfl) (by kernel_rfl) (by kernel_rfl) (by kernel_rfl) (fun _ _ _ h => h) (Or.inl ⟨by rfl, Or.inl ?hy87⟩) ?rest87
                case hy87 => (intro w' kk ss; obtain ⟨u0, u1, u2⟩ := HC.out _ (hr0.trans kk); go_simp; first | done | with_reducible rfl)
                try simp only [Act.put, List.setIfInBounds_toArray, List.set_cons_zero, List.set_cons_succ]
                refine' Reg.wpG_take (i := 1) (oi := { dst := some 34, op := Op.load 2 (Operand.tmp 33), type := 2, pos := "law.go:69", after := #[{ on := 0, ground := Ground.data }], guard := none }) (v := _) [6, 7, 8] [] rfl rfl (by kernel_rfl) (by kernel_rfl) (by kernel_rfl) (by kernel_rfl) (by kernel_rfl) (by kernel_rfl) (by kernel_rfl) (fun _ _ _ h => h) (Or.inl ⟨by rfl, Or.inl ?hy88⟩) ?rest88
                case hy88 => (intro w' kk ss; obtain ⟨u0, u1, u2⟩ := HC.out _ (hr0.trans kk); go_simp; first | done | with_reducible rfl)
                try simp only [Act.put, List.setIfInBounds_toArray, List.set_cons_zero, List.set_cons_succ]
                refine' Reg.wpG_take (i := 2) (oi := { dst := some 35, op := Op.indexAddr 44 (Operand.tmp 5) (Operand.const (Value.int IntKind.i64 1)), type := 0, pos := "law.go:69", after := #[{ on := 6, ground := Ground.gcOnly Departure.lateStores }], guard := none }) (v := _) [3, 7, 8] [] rfl rfl (by kernel_rfl) (by kernel_rfl) (by kernel_rfl) (by kernel_rfl) (by kernel_rfl) (by kernel_rfl) (by kernel_rfl) (fun _ _ _ h => h) (Or.inl ⟨by rfl, Or.inl ?hy89⟩) ?rest89
                case hy89 => (intro w' kk ss; obtain ⟨u0, u1, u2⟩ := HC.out _ (hr0.trans kk); go_simp; first | done | with_reducible rfl)
                try simp only [Act.put, List.setIfInBounds_toArray, List.set_cons_zero, List.set_cons_succ]
                refine' Reg.wpG_take (i := 3) (oi := { dst := some 36, op := Op.load 2 (Operand.tmp 35), type := 2, pos := "law.go:69", after := #[{ on := 2, ground := Ground.data }, { on := 6, ground := Ground.gcOnly Departure.lateStores }], guard := none }) (v := _) [7, 8] [] rfl rfl (by kernel_rfl) (by kernel_rfl) (by kernel_rfl) (by kernel_rfl) (by kernel_rfl) (by kernel_rfl) (by kernel_rfl) (fun _ _ _ h => h) (Or.inl ⟨by rfl, Or.inl ?hy90⟩) ?rest90
                case hy90 => (intro w' kk ss; obtain ⟨u0, u1, u2⟩ := HC.out _ (hr0.trans kk); go_simp; first | done | with_reducible rfl)
                try simp only [Act.put, List.setIfInBounds_toArray, List.set_cons_zero, List.set_cons_succ]
                refine' Reg.wpG_take (i := 4) (oi := { dst := some 37, op := Op.indexAddr 44 (Operand.tmp 5) (Operand.const (Value.int IntKind.i64 2)), type := 0, pos := "law.go:69", after := #[{ on := 7, ground := Ground.gcOnly Departure.lateStores }], guard := none }) (v := _) [5, 8] [] rfl rfl (by kernel_rfl) (by kernel_rfl) (by kernel_rfl) (by kernel_rfl) (by kernel_rfl) (by kernel_rfl) (by kernel_rfl) (fun _ _ _ h => h) (Or.inl ⟨by rfl, Or.inl ?hy91⟩) ?rest91
                case hy91 => (intro w' kk ss; obtain ⟨u0, u1, u2⟩ := HC.out _ (hr0.trans kk); go_simp; first | done | with_reducible rfl)
                try simp only [Act.put, List.setIfInBounds_toArray, List.set_cons_zero, List.set_cons_succ]
                refine' Reg.wpG_take (i := 5) (oi := { dst := some 38, op := Op.load 2 (Operand.tmp 37), type := 2, pos := "law.go:69", after := #[{ on := 4, ground := Ground.data }, { on := 7, ground := Ground.gcOnly Departure.lateStores }], guard := none }) (v := _) [8] [] rfl rfl (by kernel_rfl) (by kernel_rfl) (by kernel_rfl) (by kernel_rfl) (by kernel_rfl) (by kernel_rfl) (by kernel_rfl) (fun _ _ _ h => h) (Or.inl ⟨by rfl, Or.inl ?hy92⟩) ?rest92
                case hy92 => (intro w' kk ss; obtain ⟨u0, u1, u2⟩ := HC.out _ (hr0.trans kk); go_simp; first | done | with_reducible rfl)
                try simp only [Act.put, List.setIfInBounds_toArray, List.set_cons_zero, List.set_cons_succ]
                refine' Reg.wpG_take (i := 6) (oi := { dst := some 7, op := Op.assign (Operand.tmp 34), type := 2, pos := "law.go:69", after := #[{ on := 1, ground := Ground.data }, { on := 0, ground := Ground.phase }, { on := 1, ground := Ground.phase }, { on := 2, ground := Ground.textOnly Departure.lateStores }, { on := 3, ground := Ground.textOnly Departure.lateStores }, { on := 4, ground := Ground.textOnly Departure.lateStores }, { on := 5, ground := Ground.textOnly Departure.lateStores }], guard := none }) (v := _) [7, 8] [] rfl rfl (by kernel_rfl) (by kernel_rfl) (by kernel_rfl) (by kernel_rfl) (by kernel_rfl) (by kernel_rfl) (by kernel_rfl) (fun _ _ _ h => h) (Or.inl ⟨by rfl, Or.inl ?hy93⟩) ?rest93
                case hy93 => (intro w' kk ss; obtain ⟨u0, u1, u2⟩ := HC.out _ (hr0.trans kk); go_simp; first | done | with_reducible rfl)
                try simp only [Act.put, List.setIfInBounds_toArray, List.set_cons_zero, List.set_cons_succ]
                refine' Reg.wpG_take (i := 7) (oi := { dst := some 8, op := Op.assign (Operand.tmp 36), type := 2, pos := "law.go:69", after := #[{ on := 3, ground := Ground.data }, { on := 6, ground := Ground.chain }, { on := 0, ground := Ground.phase }, { on := 1, ground := Ground.phase }, { on := 2, ground := Ground.phase }, { on := 3, ground := Ground.phase }, { on := 4, ground := Ground.textOnly Departure.lateStores }, { on := 5, ground := Ground.textOnly Departure.lateStores }, { on := 6, ground := Ground.phase }], guard := none }) (v := _) [8] [] rfl rfl (by kernel_rfl) (by kernel_rfl) (by kernel_rfl) (by kernel_rfl) (by kernel_rfl) (by kernel_rfl) (by kernel_rfl) (fun _ _ _ h => h) (Or.inl ⟨by rfl, Or.inl ?hy94⟩) ?rest94
                case hy94 => (intro w' kk ss; obtain ⟨u0, u1, u2⟩ := HC.out _ (hr0.trans kk); go_simp; first | done | with_reducible rfl)
                try simp only [Act.put, List.setIfInBounds_toArray, List.set_cons_zero, List.set_cons_succ]
                refine' Reg.wpG_take (i := 8) (oi := { dst := some 9, op := Op.assign (Operand.tmp 38), type := 2, pos := "law.go:69", after := #[{ on := 5, ground := Ground.data }, { on := 7, ground := Ground.chain }, { on := 0, ground := Ground.phase }, { on := 1, ground := Ground.phase }, { on := 2, ground := Ground.phase }, { on := 3, ground := Ground.phase }, { on := 4, ground := Ground.phase }, { on := 5, ground := Ground.phase }, { on := 6, ground := Ground.phase }, { on := 7, ground := Ground.phase }], guard := none }) (v := _) [] [] rfl rfl (by kernel_rfl) (by kernel_rfl) (by kernel_rfl) (by kernel_rfl) (by kernel_rfl) (by kernel_rfl) (by kernel_rfl) (fun _ _ _ h => h) (Or.inl ⟨by rfl, Or.inl ?hy95⟩) ?rest95
                case hy95 => (intro w' kk ss; obtain ⟨u0, u1, u2⟩ := HC.out _ (hr0.trans kk); go_simp; first | done | with_reducible rfl)
                try simp only [Act.put, List.setIfInBounds_toArray, List.set_cons_zero, List.set_cons_succ]
                refine Reg.wpG_done (by kernel_rfl) (fun wq ke se => ?_) _
                refine NoPanic.normal ?_
                have hr0 := hr0.trans ke
                clear ke
                have KQ := K3.trans hr0
                clear hr0
                go_wp2_with (first
                  | (go_at_call 24; (with_reducible refine (CA.out _ KQ).mono ?_); rintro e w11 ⟨A11, m11, c11, rfl, -, hc, k11⟩; have K11 := KQ.trans k11)
                  | (go_at_call 26; (with_reducible refine (UA.out _ K11).mono ?_); rintro e w12 ⟨A12, m12, c12, rfl, -, hu, k12⟩; have K12 := K11.trans k12)
                  | (go_at_call 28; (with_reducible refine (XA.out _ K12).mono ?_); rintro e w13 ⟨A13, m13, c13, rfl, -, hm, k13⟩; have K13 := K12.trans k13)
                  | (go_at_call 14; (with_reducible refine (RC.out _ _ (hc.since stR (k12.trans k13))).mono ?_); rintro e w14 ⟨rfl, k14⟩; have K14 := K13.trans k14)
                  | (go_at_call 14; (with_reducible refine (RU.out _ _ (hu.since stR (k13.trans k14))).mono ?_); rintro e w15 ⟨rfl, k15⟩; have K15 := K14.trans k15)
                  | (go_at_call 14; (with_reducible refine (RX.out _ _ (hm.since stR (k14.trans k15))).mono ?_); rintro e w16 ⟨rfl, k16⟩; have K16 := K15.trans k16)
                  | (go_at_call 20; (with_reducible refine (HC1.out _ _ (hc.since stR ((((k12.trans k13).trans k14).trans k15).trans k16))).mono ?_); rintro e w17 ⟨rfl, k17⟩; have K17 := K16.trans k17)
                  | (go_at_call 20; (with_reducible refine (HA.out _ K17).mono ?_); rintro e w18 ⟨rfl, k18⟩; have K18 := K17.trans k18)
                  | (go_at_call 20; (with_reducible refine (HU.out _ _ (hu.since stR (((((k13.trans k14).trans k15).trans k16).trans k17).trans k18))).mono ?_); rintro e w19 ⟨rfl, k19⟩; have K19 := K18.trans k19)
                  | (go_at_call 20; (with_reducible refine (HA.out _ K19).mono ?_); rintro e w20 ⟨rfl, k20⟩; have K20 := K19.trans k20)
                  | (go_at_call 20; (with_reducible refine (HX.out _ _ (hm.since stR ((((((k14.trans k15).trans k16).trans k17).trans k18).trans k19).trans k20))).mono ?_); rintro e w21 ⟨rfl, k21⟩; have K21 := K20.trans k21)
                  | (go_at_call 20; (with_reducible refine (HA.out _ K21).mono ?_); rintro e w22 ⟨rfl, k22⟩; have K22 := K21.trans k22)
                  | (go_at_call 20; (with_reducible refine (HH.out _ K22).mono ?_); rintro e w23 ⟨rfl, k23⟩; have K23 := K22.trans k23))
                go_ret
                exact ⟨by first | (simp; done) | (simp; omega), K23⟩
              | true =>
                rw [hb] at eX HH
                rw [eC] at HC1
                rw [eU] at HU
                rw [eX] at HX
                clear eC eU eX
                clear hb
                subst hW0
                go_enter Try.func6, Try.ntmps6
                go_wp2_with (first
                  | (go_at_call 10; (with_reducible refine AL.out.mono ?_); rintro e w1 ⟨rfl, k1⟩; have K1 := K00.out.trans k1)
                  | (go_at_call 14; (with_reducible refine (R0.out _ K1).mono ?_); rintro e w2 ⟨rfl, k2⟩; have K2 := K1.trans k2)
                  | (go_at_call 14; (with_reducible refine (R1.out _ K2).mono ?_); rintro e w3 ⟨rfl, k3⟩; have K3 := K2.trans k3))
                have HC := Lib.hid (fun W (k : Since w3 W) => HB.out W ((k1.trans k2).trans (k3.trans k)))
                have hr0 : Since w3 w3.drew := Since.drew (Since.refl w3)
                refine wp_region_noPanic ?_
                refine Reg.wp_region_G (S := fun _ => True) (fun j => [].contains j) (by kernel_rfl) trivial ?_
                refine' Reg.wpG_take (i := 0) (oi := { dst := some 33, op := Op.indexAddr 44 (Operand.tmp 5) (Operand.const (Value.int IntKind.i64 0)), type := 0, pos := "law.go:69", after := #[], guard := none }) (v := _) [1, 6, 7, 8] [] rfl rfl (by kernel_rfl) (by kernel_rfl) (by kernel_rfl) (by kernel_rfl) (by kernel_rfl) (by kernel_rfl) (by kernel_rfl) (fun _ _ _ h => h) (Or.inl ⟨by rfl, Or.inl ?hy96⟩) ?rest96
                case hy96 => (intro w' kk ss; obtain ⟨u0, u1, u2⟩ := HC.out _ (hr0.trans kk); go_simp; first | done | with_reducible rfl)
                try simp only [Act.put, List.setIfInBounds_toArray, List.set_cons_zero, List.set_cons_succ]
                refine' Reg.wpG_take (i := 1) (oi := { dst := some 34, op := Op.load 2 (Operand.tmp 33), type := 2, pos := "law.go:69", after := #[{ on := 0, ground := Ground.data }], guard := none }) (v := _) [6, 7, 8] [] rfl rfl (by kernel_rfl) (by kernel_rfl) (by kernel_rfl) (by kernel_rfl) (by kernel_rfl) (by kernel_rfl) (by kernel_rfl) (fun _ _ _ h => h) (Or.inl ⟨by rfl, Or.inl ?hy97⟩) ?rest97
                case hy97 => (intro w' kk ss; obtain ⟨u0, u1, u2⟩ := HC.out _ (hr0.trans kk); go_simp; first | done | with_reducible rfl)
                try simp only [Act.put, List.setIfInBounds_toArray, List.set_cons_zero, List.set_cons_succ]
                refine' Reg.wpG_take (i := 2) (oi := { dst := some 35, op := Op.indexAddr 44 (Operand.tmp 5) (Operand.const (Value.int IntKind.i64 1)), type := 0, pos := "law.go:69", after := #[{ on := 6, ground := Ground.gcOnly Departure.lateStores }], guard := none }) (v := _) [3, 7, 8] [] rfl rfl (by kernel_rfl) (by kernel_rfl) (by kernel_rfl) (by kernel_rfl) (by kernel_rfl) (by kernel_rfl) (by kernel_rfl) (fun _ _ _ h => h) (Or.inl ⟨by rfl, Or.inl ?hy98⟩) ?rest98
                case hy98 => (intro w' kk ss; obtain ⟨u0, u1, u2⟩ := HC.out _ (hr0.trans kk); go_simp; first | done | with_reducible rfl)
                try simp only [Act.put, List.setIfInBounds_toArray, List.set_cons_zero, List.set_cons_succ]
                refine' Reg.wpG_take (i := 3) (oi := { dst := some 36, op := Op.load 2 (Operand.tmp 35), type := 2, pos := "law.go:69", after := #[{ on := 2, ground := Ground.data }, { on := 6, ground := Ground.gcOnly Departure.lateStores }], guard := none }) (v := _) [7, 8] [] rfl rfl (by kernel_rfl) (by kernel_rfl) (by kernel_rfl) (by kernel_rfl) (by kernel_rfl) (by kernel_rfl) (by kernel_rfl) (fun _ _ _ h => h) (Or.inl ⟨by rfl, Or.inl ?hy99⟩) ?rest99
                case hy99 => (intro w' kk ss; obtain ⟨u0, u1, u2⟩ := HC.out _ (hr0.trans kk); go_simp; first | done | with_reducible rfl)
                try simp only [Act.put, List.setIfInBounds_toArray, List.set_cons_zero, List.set_cons_succ]
                refine' Reg.wpG_take (i := 4) (oi := { dst := some 37, op := Op.indexAddr 44 (Operand.tmp 5) (Operand.const (Value.int IntKind.i64 2)), type := 0, pos := "law.go:69", after := #[{ on := 7, ground := Ground.gcOnly Departure.lateStores }], guard := none }) (v := _) [5, 8] [] rfl rfl (by kernel_rfl) (by kernel_rfl) (by kernel_rfl) (by kernel_rfl) (by kernel_rfl) (by kernel_rfl) (by kernel_rfl) (fun _ _ _ h => h) (Or.inl ⟨by rfl, Or.inl ?hy100⟩) ?rest100
                case hy100 => (intro w' kk ss; obtain ⟨u0, u1, u2⟩ := HC.out _ (hr0.trans kk); go_simp; first | done | with_reducible rfl)
                try simp only [Act.put, List.setIfInBounds_toArray, List.set_cons_zero, List.set_cons_succ]
                refine' Reg.wpG_take (i := 5) (oi := { dst := some 38, op := Op.load 2 (Operand.tmp 37), type := 2, pos := "law.go:69", after := #[{ on := 4, ground := Ground.data }, { on := 7, ground := Ground.gcOnly Departure.lateStores }], guard := none }) (v := _) [8] [] rfl rfl (by kernel_rfl) (by kernel_rfl) (by kernel_rfl) (by kernel_rfl) (by kernel_rfl) (by kernel_rfl) (by kernel_rfl) (fun _ _ _ h => h) (Or.inl ⟨by rfl, Or.inl ?hy101⟩) ?rest101
                case hy101 => (intro w' kk ss; obtain ⟨u0, u1, u2⟩ := HC.out _ (hr0.trans kk); go_simp; first | done | with_reducible rfl)
                try simp only [Act.put, List.setIfInBounds_toArray, List.set_cons_zero, List.set_cons_succ]
                refine' Reg.wpG_take (i := 6) (oi := { dst := some 7, op := Op.assign (Operand.tmp 34), type := 2, pos := "law.go:69", after := #[{ on := 1, ground := Ground.data }, { on := 0, ground := Ground.phase }, { on := 1, ground := Ground.phase }, { on := 2, ground := Ground.textOnly Departure.lateStores }, { on := 3, ground := Ground.textOnly Departure.lateStores }, { on := 4, ground := Ground.textOnly Departure.lateStores }, { on := 5, ground := Ground.textOnly Departure.lateStores }], guard := none }) (v := _) [7, 8] [] rfl rfl (by kernel_rfl) (by kernel_rfl) (by kernel_rfl) (by kernel_rfl) (by kernel_rfl) (by kernel_rfl) (by kernel_rfl) (fun _ _ _ h => h) (Or.inl ⟨by rfl, Or.inl ?hy102⟩) ?rest102
                case hy102 => (intro w' kk ss; obtain ⟨u0, u1, u2⟩ := HC.out _ (hr0.trans kk); go_simp; first | done | with_reducible rfl)
                try simp only [Act.put, List.setIfInBounds_toArray, List.set_cons_zero, List.set_cons_succ]
                refine' Reg.wpG_take (i := 7) (oi := { dst := some 8, op := Op.assign (Operand.tmp 36), type := 2, pos := "law.go:69", after := #[{ on := 3, ground := Ground.data }, { on := 6, ground := Ground.chain }, { on := 0, ground := Ground.phase }, { on := 1, ground := Ground.phase }, { on := 2, ground := Ground.phase }, { on := 3, ground := Ground.phase }, { on := 4, ground := Ground.textOnly Departure.lateStores }, { on := 5, ground := Ground.textOnly Departure.lateStores }, { on := 6, ground := Ground.phase }], guard := none }) (v := _) [8] [] rfl rfl (by kernel_rfl) (by kernel_rfl) (by kernel_rfl) (by kernel_rfl) (by kernel_rfl) (by kernel_rfl) (by kernel_rfl) (fun _ _ _ h => h) (Or.inl ⟨by rfl, Or.inl ?hy103⟩) ?rest103
                case hy103 => (intro w' kk ss; obtain ⟨u0, u1, u2⟩ := HC.out _ (hr0.trans kk); go_simp; first | done | with_reducible rfl)
                try simp only [Act.put, List.setIfInBounds_toArray, List.set_cons_zero, List.set_cons_succ]
                refine' Reg.wpG_take (i := 8) (oi := { dst := some 9, op := Op.assign (Operand.tmp 38), type := 2, pos := "law.go:69", after := #[{ on := 5, ground := Ground.data }, { on := 7, ground := Ground.chain }, { on := 0, ground := Ground.phase }, { on := 1, ground := Ground.phase }, { on := 2, ground := Ground.phase }, { on := 3, ground := Ground.phase }, { on := 4, ground := Ground.phase }, { on := 5, ground := Ground.phase }, { on := 6, ground := Ground.phase }, { on := 7, ground := Ground.phase }], guard := none }) (v := _) [] [] rfl rfl (by kernel_rfl) (by kernel_rfl) (by kernel_rfl) (by kernel_rfl) (by kernel_rfl) (by kernel_rfl) (by kernel_rfl) (fun _ _ _ h => h) (Or.inl ⟨by rfl, Or.inl ?hy104⟩) ?rest104
                case hy104 => (intro w' kk ss; obtain ⟨u0, u1, u2⟩ := HC.out _ (hr0.trans kk); go_simp; first | done | with_reducible rfl)
                try simp only [Act.put, List.setIfInBounds_toArray, List.set_cons_zero, List.set_cons_succ]
                refine Reg.wpG_done (by kernel_rfl) (fun wq ke se => ?_) _
                refine NoPanic.normal ?_
                have hr0 := hr0.trans ke
                clear ke
                have KQ := K3.trans hr0
                clear hr0
                go_wp2_with (first
                  | (go_at_call 24; (with_reducible refine (CA.out _ KQ).mono ?_); rintro e w11 ⟨A11, m11, c11, rfl, -, hc, k11⟩; have K11 := KQ.trans k11)
                  | (go_at_call 26; (with_reducible refine (UA.out _ K11).mono ?_); rintro e w12 ⟨A12, m12, c12, rfl, -, hu, k12⟩; have K12 := K11.trans k12)
                  | (go_at_call 28; (with_reducible refine (XA.out _ K12).mono ?_); rintro e w13 ⟨A13, m13, c13, rfl, -, hm, k13⟩; have K13 := K12.trans k13)
                  | (go_at_call 14; (with_reducible refine (RC.out _ _ (hc.since stR (k12.trans k13))).mono ?_); rintro e w14 ⟨rfl, k14⟩; have K14 := K13.trans k14)
                  | (go_at_call 14; (with_reducible refine (RU.out _ _ (hu.since stR (k13.trans k14))).mono ?_); rintro e w15 ⟨rfl, k15⟩; have K15 := K14.trans k15)
                  | (go_at_call 14; (with_reducible refine (RX.out _ _ (hm.since stR (k14.trans k15))).mono ?_); rintro e w16 ⟨rfl, k16⟩; have K16 := K15.trans k16)
                  | (go_at_call 20; (with_reducible refine (HC1.out _ _ (hc.since stR ((((k12.trans k13).trans k14).trans k15).trans k16))).mono ?_); rintro e w17 ⟨rfl, k17⟩; have K17 := K16.trans k17)
                  | (go_at_call 20; (with_reducible refine (HA.out _ K17).mono ?_); rintro e w18 ⟨rfl, k18⟩; have K18 := K17.trans k18)
                  | (go_at_call 20; (with_reducible refine (HU.out _ _ (hu.since stR (((((k13.trans k14).trans k15).trans k16).trans k17).trans k18))).mono ?_); rintro e w19 ⟨rfl, k19⟩; have K19 := K18.trans k19)
                  | (go_at_call 20; (with_reducible refine (HA.out _ K19).mono ?_); rintro e w20 ⟨rfl, k20⟩; have K20 := K19.trans k20)
                  | (go_at_call 20; (with_reducible refine (HX.out _ _ (hm.since stR ((((((k14.trans k15).trans k16).trans k17).trans k18).trans k19).trans k20))).mono ?_); rintro e w21 ⟨rfl, k21⟩; have K21 := K20.trans k21)
                  | (go_at_call 20; (with_reducible refine (HA.out _ K21).mono ?_); rintro e w22 ⟨rfl, k22⟩; have K22 := K21.trans k22)
                  | (go_at_call 20; (with_reducible refine (HH.out _ K22).mono ?_); rintro e w23 ⟨rfl, k23⟩; have K23 := K22.trans k23))
                go_ret
                exact ⟨by first | (simp; done) | (simp; omega), K23⟩
            · have n3 : (z2 != x2) = true := by rw [bne_iff_ne]; exact c3
              rw [show (!decide (z2 = x2)) = true by simp [c3]] at eU
              clear c3
              cases hb : has z1 z2 with
              | false =>
                rw [hb] at eX HH
                rw [eC] at HC1
                rw [eU] at HU
                rw [eX] at HX
                clear eC eU eX
                clear hb
                subst hW0
                go_enter Try.func6, Try.ntmps6
                go_wp2_with (first
                  | (go_at_call 10; (with_reducible refine AL.out.mono ?_); rintro e w1 ⟨rfl, k1⟩; have K1 := K00.out.trans k1)
                  | (go_at_call 14; (with_reducible refine (R0.out _ K1).mono ?_); rintro e w2 ⟨rfl, k2⟩; have K2 := K1.trans k2)
                  | (go_at_call 14; (with_reducible refine (R1.out _ K2).mono ?_); rintro e w3 ⟨rfl, k3⟩; have K3 := K2.trans k3))
                have HC := Lib.hid (fun W (k : Since w3 W) => HB.out W ((k1.trans k2).trans (k3.trans k)))
                have hr0 : Since w3 w3.drew := Since.drew (Since.refl w3)
                refine wp_region_noPanic ?_
                refine Reg.wp_region_G (S := fun _ => True) (fun j => [].contains j) (by kernel_rfl) trivial ?_
                refine' Reg.wpG_take (i := 0) (oi := { dst := some 33, op := Op.indexAddr 44 (Operand.tmp 5) (Operand.const (Value.int IntKind.i64 0)), type := 0, pos := "law.go:69", after := #[], guard := none }) (v := _) [1, 6, 7, 8] [] rfl rfl (by kernel_rfl) (by kernel_rfl) (by kernel_rfl) (by kernel_rfl) (by kernel_rfl) (by kernel_rfl) (by kernel_rfl) (fun _ _ _ h => h) (Or.inl ⟨by rfl, Or.inl ?hy105⟩) ?rest105
                case hy105 => (intro w' kk ss; obtain ⟨u0, u1, u2⟩ := HC.out _ (hr0.trans kk); go_simp; first | done | with_reducible rfl)
                try simp only [Act.put, List.setIfInBounds_toArray, List.set_cons_zero, List.set_cons_succ]
                refine' Reg.wpG_take (i := 1) (oi := { dst := some 34, op := Op.load 2 (Operand.tmp 33), type := 2, pos := "law.go:69", after := #[{ on := 0, ground := Ground.data }], guard := none }) (v := _) [6, 7, 8] [] rfl rfl (by kernel_rfl) (by kernel_rfl) (by kernel_rfl) (by kernel_rfl) (by kernel_rfl) (by kernel_rfl) (by kernel_rfl) (fun _ _ _ h => h) (Or.inl ⟨by rfl, Or.inl ?hy106⟩) ?rest106
                case hy106 => (intro w' kk ss; obtain ⟨u0, u1, u2⟩ := HC.out _ (hr0.trans kk); go_simp; first | done | with_reducible rfl)
                try simp only [Act.put, List.setIfInBounds_toArray, List.set_cons_zero, List.set_cons_succ]
                refine' Reg.wpG_take (i := 2) (oi := { dst := some 35, op := Op.indexAddr 44 (Operand.tmp 5) (Operand.const (Value.int IntKind.i64 1)), type := 0, pos := "law.go:69", after := #[{ on := 6, ground := Ground.gcOnly Departure.lateStores }], guard := none }) (v := _) [3, 7, 8] [] rfl rfl (by kernel_rfl) (by kernel_rfl) (by kernel_rfl) (by kernel_rfl) (by kernel_rfl) (by kernel_rfl) (by kernel_rfl) (fun _ _ _ h => h) (Or.inl ⟨by rfl, Or.inl ?hy107⟩) ?rest107
                case hy107 => (intro w' kk ss; obtain ⟨u0, u1, u2⟩ := HC.out _ (hr0.trans kk); go_simp; first | done | with_reducible rfl)
                try simp only [Act.put, List.setIfInBounds_toArray, List.set_cons_zero, List.set_cons_succ]
                refine' Reg.wpG_take (i := 3) (oi := { dst := some 36, op := Op.load 2 (Operand.tmp 35), type := 2, pos := "law.go:69", after := #[{ on := 2, ground := Ground.data }, { on := 6, ground := Ground.gcOnly Departure.lateStores }], guard := none }) (v := _) [7, 8] [] rfl rfl (by kernel_rfl) (by kernel_rfl) (by kernel_rfl) (by kernel_rfl) (by kernel_rfl) (by kernel_rfl) (by kernel_rfl) (fun _ _ _ h => h) (Or.inl ⟨by rfl, Or.inl ?hy108⟩) ?rest108
                case hy108 => (intro w' kk ss; obtain ⟨u0, u1, u2⟩ := HC.out _ (hr0.trans kk); go_simp; first | done | with_reducible rfl)
                try simp only [Act.put, List.setIfInBounds_toArray, List.set_cons_zero, List.set_cons_succ]
                refine' Reg.wpG_take (i := 4) (oi := { dst := some 37, op := Op.indexAddr 44 (Operand.tmp 5) (Operand.const (Value.int IntKind.i64 2)), type := 0, pos := "law.go:69", after := #[{ on := 7, ground := Ground.gcOnly Departure.lateStores }], guard := none }) (v := _) [5, 8] [] rfl rfl (by kernel_rfl) (by kernel_rfl) (by kernel_rfl) (by kernel_rfl) (by kernel_rfl) (by kernel_rfl) (by kernel_rfl) (fun _ _ _ h => h) (Or.inl ⟨by rfl, Or.inl ?hy109⟩) ?rest109
                case hy109 => (intro w' kk ss; obtain ⟨u0, u1, u2⟩ := HC.out _ (hr0.trans kk); go_simp; first | done | with_reducible rfl)
                try simp only [Act.put, List.setIfInBounds_toArray, List.set_cons_zero, List.set_cons_succ]
                refine' Reg.wpG_take (i := 5) (oi := { dst := some 38, op := Op.load 2 (Operand.tmp 37), type := 2, pos := "law.go:69", after := #[{ on := 4, ground := Ground.data }, { on := 7, ground := Ground.gcOnly Departure.lateStores }], guard := none }) (v := _) [8] [] rfl rfl (by kernel_rfl) (by kernel_rfl) (by kernel_rfl) (by kernel_rfl) (by kernel_rfl) (by kernel_rfl) (by kernel_rfl) (fun _ _ _ h => h) (Or.inl ⟨by rfl, Or.inl ?hy110⟩) ?rest110
                case hy110 => (intro w' kk ss; obtain ⟨u0, u1, u2⟩ := HC.out _ (hr0.trans kk); go_simp; first | done | with_reducible rfl)
                try simp only [Act.put, List.setIfInBounds_toArray, List.set_cons_zero, List.set_cons_succ]
                refine' Reg.wpG_take (i := 6) (oi := { dst := some 7, op := Op.assign (Operand.tmp 34), type := 2, pos := "law.go:69", after := #[{ on := 1, ground := Ground.data }, { on := 0, ground := Ground.phase }, { on := 1, ground := Ground.phase }, { on := 2, ground := Ground.textOnly Departure.lateStores }, { on := 3, ground := Ground.textOnly Departure.lateStores }, { on := 4, ground := Ground.textOnly Departure.lateStores }, { on := 5, ground := Ground.textOnly Departure.lateStores }], guard := none }) (v := _) [7, 8] [] rfl rfl (by kernel_rfl) (by kernel_rfl) (by kernel_rfl) (by kernel_rfl) (by kernel_rfl) (by kernel_rfl) (by kernel_rfl) (fun _ _ _ h => h) (Or.inl ⟨by rfl, Or.inl ?hy111⟩) ?rest111
                case hy111 => (intro w' kk ss; obtain ⟨u0, u1, u2⟩ := HC.out _ (hr0.trans kk); go_simp; first | done | with_reducible rfl)
                try simp only [Act.put, List.setIfInBounds_toArray, List.set_cons_zero, List.set_cons_succ]
                refine' Reg.wpG_take (i := 7) (oi := { dst := some 8, op := Op.assign (Operand.tmp 36), type := 2, pos := "law.go:69", after := #[{ on := 3, ground := Ground.data }, { on := 6, ground := Ground.chain }, { on := 0, ground := Ground.phase }, { on := 1, ground := Ground.phase }, { on := 2, ground := Ground.phase }, { on := 3, ground := Ground.phase }, { on := 4, ground := Ground.textOnly Departure.lateStores }, { on := 5, ground := Ground.textOnly Departure.lateStores }, { on := 6, ground := Ground.phase }], guard := none }) (v := _) [8] [] rfl rfl (by kernel_rfl) (by kernel_rfl) (by kernel_rfl) (by kernel_rfl) (by kernel_rfl) (by kernel_rfl) (by kernel_rfl) (fun _ _ _ h => h) (Or.inl ⟨by rfl, Or.inl ?hy112⟩) ?rest112
                case hy112 => (intro w' kk ss; obtain ⟨u0, u1, u2⟩ := HC.out _ (hr0.trans kk); go_simp; first | done | with_reducible rfl)
                try simp only [Act.put, List.setIfInBounds_toArray, List.set_cons_zero, List.set_cons_succ]
                refine' Reg.wpG_take (i := 8) (oi := { dst := some 9, op := Op.assign (Operand.tmp 38), type := 2, pos := "law.go:69", after := #[{ on := 5, ground := Ground.data }, { on := 7, ground := Ground.chain }, { on := 0, ground := Ground.phase }, { on := 1, ground := Ground.phase }, { on := 2, ground := Ground.phase }, { on := 3, ground := Ground.phase }, { on := 4, ground := Ground.phase }, { on := 5, ground := Ground.phase }, { on := 6, ground := Ground.phase }, { on := 7, ground := Ground.phase }], guard := none }) (v := _) [] [] rfl rfl (by kernel_rfl) (by kernel_rfl) (by kernel_rfl) (by kernel_rfl) (by kernel_rfl) (by kernel_rfl) (by kernel_rfl) (fun _ _ _ h => h) (Or.inl ⟨by rfl, Or.inl ?hy113⟩) ?rest113
                case hy113 => (intro w' kk ss; obtain ⟨u0, u1, u2⟩ := HC.out _ (hr0.trans kk); go_simp; first | done | with_reducible rfl)
                try simp only [Act.put, List.setIfInBounds_toArray, List.set_cons_zero, List.set_cons_succ]
                refine Reg.wpG_done (by kernel_rfl) (fun wq ke se => ?_) _
                refine NoPanic.normal ?_
                have hr0 := hr0.trans ke
                clear ke
                have KQ := K3.trans hr0
                clear hr0
                go_wp2_with (first
                  | (go_at_call 24; (with_reducible refine (CA.out _ KQ).mono ?_); rintro e w11 ⟨A11, m11, c11, rfl, -, hc, k11⟩; have K11 := KQ.trans k11)
                  | (go_at_call 26; (with_reducible refine (UA.out _ K11).mono ?_); rintro e w12 ⟨A12, m12, c12, rfl, -, hu, k12⟩; have K12 := K11.trans k12)
                  | (go_at_call 28; (with_reducible refine (XA.out _ K12).mono ?_); rintro e w13 ⟨A13, m13, c13, rfl, -, hm, k13⟩; have K13 := K12.trans k13)
                  | (go_at_call 14; (with_reducible refine (RC.out _ _ (hc.since stR (k12.trans k13))).mono ?_); rintro e w14 ⟨rfl, k14⟩; have K14 := K13.trans k14)
                  | (go_at_call 14; (with_reducible refine (RU.out _ _ (hu.since stR (k13.trans k14))).mono ?_); rintro e w15 ⟨rfl, k15⟩; have K15 := K14.trans k15)
                  | (go_at_call 14; (with_reducible refine (RX.out _ _ (hm.since stR (k14.trans k15))).mono ?_); rintro e w16 ⟨rfl, k16⟩; have K16 := K15.trans k16)
                  | (go_at_call 20; (with_reducible refine (HC1.out _ _ (hc.since stR ((((k12.trans k13).trans k14).trans k15).trans k16))).mono ?_); rintro e w17 ⟨rfl, k17⟩; have K17 := K16.trans k17)
                  | (go_at_call 20; (with_reducible refine (HA.out _ K17).mono ?_); rintro e w18 ⟨rfl, k18⟩; have K18 := K17.trans k18)
                  | (go_at_call 20; (with_reducible refine (HU.out _ _ (hu.since stR (((((k13.trans k14).trans k15).trans k16).trans k17).trans k18))).mono ?_); rintro e w19 ⟨rfl, k19⟩; have K19 := K18.trans k19)
                  | (go_at_call 20; (with_reducible refine (HA.out _ K19).mono ?_); rintro e w20 ⟨rfl, k20⟩; have K20 := K19.trans k20)
                  | (go_at_call 20; (with_reducible refine (HX.out _ _ (hm.since stR ((((((k14.trans k15).trans k16).trans k17).trans k18).trans k19).trans k20))).mono ?_); rintro e w21 ⟨rfl, k21⟩; have K21 := K20.trans k21)
                  | (go_at_call 20; (with_reducible refine (HA.out _ K21).mono ?_); rintro e w22 ⟨rfl, k22⟩; have K22 := K21.trans k22)
                  | (go_at_call 20; (with_reducible refine (HH.out _ K22).mono ?_); rintro e w23 ⟨rfl, k23⟩; have K23 := K22.trans k23))
                go_ret
                exact ⟨by first | (simp; done) | (simp; omega), K23⟩
              | true =>
                rw [hb] at eX HH
                rw [eC] at HC1
                rw [eU] at HU
                rw [eX] at HX
                clear eC eU eX
                clear hb
                subst hW0
                go_enter Try.func6, Try.ntmps6
                go_wp2_with (first
                  | (go_at_call 10; (with_reducible refine AL.out.mono ?_); rintro e w1 ⟨rfl, k1⟩; have K1 := K00.out.trans k1)
                  | (go_at_call 14; (with_reducible refine (R0.out _ K1).mono ?_); rintro e w2 ⟨rfl, k2⟩; have K2 := K1.trans k2)
                  | (go_at_call 14; (with_reducible refine (R1.out _ K2).mono ?_); rintro e w3 ⟨rfl, k3⟩; have K3 := K2.trans k3))
                have HC := Lib.hid (fun W (k : Since w3 W) => HB.out W ((k1.trans k2).trans (k3.trans k)))
                have hr0 : Since w3 w3.drew := Since.drew (Since.refl w3)
                refine wp_region_noPanic ?_
                refine Reg.wp_region_G (S := fun _ => True) (fun j => [].contains j) (by kernel_rfl) trivial ?_
                refine' Reg.wpG_take (i := 0) (oi := { dst := some 33, op := Op.indexAddr 44 (Operand.tmp 5) (Operand.const (Value.int IntKind.i64 0)), type := 0, pos := "law.go:69", after := #[], guard := none }) (v := _) [1, 6, 7, 8] [] rfl rfl (by kernel_rfl) (by kernel_rfl) (by kernel_rfl) (by kernel_rfl) (by kernel_rfl) (by kernel_rfl) (by kernel_rfl) (fun _ _ _ h => h) (Or.inl ⟨by rfl, Or.inl ?hy114⟩) ?rest114
                case hy114 => (intro w' kk ss; obtain ⟨u0, u1, u2⟩ := HC.out _ (hr0.trans kk); go_simp; first | done | with_reducible rfl)
                try simp only [Act.put, List.setIfInBounds_toArray, List.set_cons_zero, List.set_cons_succ]
                refine' Reg.wpG_take (i := 1) (oi := { dst := some 34, op := Op.load 2 (Operand.tmp 33), type := 2, pos := "law.go:69", after := #[{ on := 0, ground := Ground.data }], guard := none }) (v := _) [6, 7, 8] [] rfl rfl (by kernel_rfl) (by kernel_rfl) (by kernel_rfl) (by kernel_rfl) (by kernel_rfl) (by kernel_rfl) (by kernel_rfl) (fun _ _ _ h => h) (Or.inl ⟨by rfl, Or.inl ?hy115⟩) ?rest115
                case hy115 => (intro w' kk ss; obtain ⟨u0, u1, u2⟩ := HC.out _ (hr0.trans kk); go_simp; first | done | with_reducible rfl)
                try simp only [Act.put, List.setIfInBounds_toArray, List.set_cons_zero, List.set_cons_succ]
                refine' Reg.wpG_take (i := 2) (oi := { dst := some 35, op := Op.indexAddr 44 (Operand.tmp 5) (Operand.const (Value.int IntKind.i64 1)), type := 0, pos := "law.go:69", after := #[{ on := 6, ground := Ground.gcOnly Departure.lateStores }], guard := none }) (v := _) [3, 7, 8] [] rfl rfl (by kernel_rfl) (by kernel_rfl) (by kernel_rfl) (by kernel_rfl) (by kernel_rfl) (by kernel_rfl) (by kernel_rfl) (fun _ _ _ h => h) (Or.inl ⟨by rfl, Or.inl ?hy116⟩) ?rest116
                case hy116 => (intro w' kk ss; obtain ⟨u0, u1, u2⟩ := HC.out _ (hr0.trans kk); go_simp; first | done | with_reducible rfl)
                try simp only [Act.put, List.setIfInBounds_toArray, List.set_cons_zero, List.set_cons_succ]
                refine' Reg.wpG_take (i := 3) (oi := { dst := some 36, op := Op.load 2 (Operand.tmp 35), type := 2, pos := "law.go:69", after := #[{ on := 2, ground := Ground.data }, { on := 6, ground := Ground.gcOnly Departure.lateStores }], guard := none }) (v := _) [7, 8] [] rfl rfl (by kernel_rfl) (by kernel_rfl) (by kernel_rfl) (by kernel_rfl) (by kernel_rfl) (by kernel_rfl) (by kernel_rfl) (fun _ _ _ h => h) (Or.inl ⟨by rfl, Or.inl ?hy117⟩) ?rest117
                case hy117 => (intro w' kk ss; obtain ⟨u0, u1, u2⟩ := HC.out _ (hr0.trans kk); go_simp; first | done | with_reducible rfl)
                try simp only [Act.put, List.setIfInBounds_toArray, List.set_cons_zero, List.set_cons_succ]
                refine' Reg.wpG_take (i := 4) (oi := { dst := some 37, op := Op.indexAddr 44 (Operand.tmp 5) (Operand.const (Value.int IntKind.i64 2)), type := 0, pos := "law.go:69", after := #[{ on := 7, ground := Ground.gcOnly Departure.lateStores }], guard := none }) (v := _) [5, 8] [] rfl rfl (by kernel_rfl) (by kernel_rfl) (by kernel_rfl) (by kernel_rfl) (by kernel_rfl) (by kernel_rfl) (by kernel_rfl) (fun _ _ _ h => h) (Or.inl ⟨by rfl, Or.inl ?hy118⟩) ?rest118
                case hy118 => (intro w' kk ss; obtain ⟨u0, u1, u2⟩ := HC.out _ (hr0.trans kk); go_simp; first | done | with_reducible rfl)
                try simp only [Act.put, List.setIfInBounds_toArray, List.set_cons_zero, List.set_cons_succ]
                refine' Reg.wpG_take (i := 5) (oi := { dst := some 38, op := Op.load 2 (Operand.tmp 37), type := 2, pos := "law.go:69", after := #[{ on := 4, ground := Ground.data }, { on := 7, ground := Ground.gcOnly Departure.lateStores }], guard := none }) (v := _) [8] [] rfl rfl (by kernel_rfl) (by kernel_rfl) (by kernel_rfl) (by kernel_rfl) (by kernel_rfl) (by kernel_rfl) (by kernel_rfl) (fun _ _ _ h => h) (Or.inl ⟨by rfl, Or.inl ?hy119⟩) ?rest119
                case hy119 => (intro w' kk ss; obtain ⟨u0, u1, u2⟩ := HC.out _ (hr0.trans kk); go_simp; first | done | with_reducible rfl)
                try simp only [Act.put, List.setIfInBounds_toArray, List.set_cons_zero, List.set_cons_succ]
                refine' Reg.wpG_take (i := 6) (oi := { dst := some 7, op := Op.assign (Operand.tmp 34), type := 2, pos := "law.go:69", after := #[{ on := 1, ground := Ground.data }, { on := 0, ground := Ground.phase }, { on := 1, ground := Ground.phase }, { on := 2, ground := Ground.textOnly Departure.lateStores }, { on := 3, ground := Ground.textOnly Departure.lateStores }, { on := 4, ground := Ground.textOnly Departure.lateStores }, { on := 5, ground := Ground.textOnly Departure.lateStores }], guard := none }) (v := _) [7, 8] [] rfl rfl (by kernel_rfl) (by kernel_rfl) (by kernel_rfl) (by kernel_rfl) (by kernel_rfl) (by kernel_rfl) (by kernel_rfl) (fun _ _ _ h => h) (Or.inl ⟨by rfl, Or.inl ?hy120⟩) ?rest120
                case hy120 => (intro w' kk ss; obtain ⟨u0, u1, u2⟩ := HC.out _ (hr0.trans kk); go_simp; first | done | with_reducible rfl)
                try simp only [Act.put, List.setIfInBounds_toArray, List.set_cons_zero, List.set_cons_succ]
                refine' Reg.wpG_take (i := 7) (oi := { dst := some 8, op := Op.assign (Operand.tmp 36), type := 2, pos := "law.go:69", after := #[{ on := 3, ground := Ground.data }, { on := 6, ground := Ground.chain }, { on := 0, ground := Ground.phase }, { on := 1, ground := Ground.phase }, { on := 2, ground := Ground.phase }, { on := 3, ground := Ground.phase }, { on := 4, ground := Ground.textOnly Departure.lateStores }, { on := 5, ground := Ground.textOnly Departure.lateStores }, { on := 6, ground := Ground.phase }], guard := none }) (v := _) [8] [] rfl rfl (by kernel_rfl) (by kernel_rfl) (by kernel_rfl) (by kernel_rfl) (by kernel_rfl) (by kernel_rfl) (by kernel_rfl) (fun _ _ _ h => h) (Or.inl ⟨by rfl, Or.inl ?hy121⟩) ?rest121
                case hy121 => (intro w' kk ss; obtain ⟨u0, u1, u2⟩ := HC.out _ (hr0.trans kk); go_simp; first | done | with_reducible rfl)
                try simp only [Act.put, List.setIfInBounds_toArray, List.set_cons_zero, List.set_cons_succ]
                refine' Reg.wpG_take (i := 8) (oi := { dst := some 9, op := Op.assign (Operand.tmp 38), type := 2, pos := "law.go:69", after := #[{ on := 5, ground := Ground.data }, { on := 7, ground := Ground.chain }, { on := 0, ground := Ground.phase }, { on := 1, ground := Ground.phase }, { on := 2, ground := Ground.phase }, { on := 3, ground := Ground.phase }, { on := 4, ground := Ground.phase }, { on := 5, ground := Ground.phase }, { on := 6, ground := Ground.phase }, { on := 7, ground := Ground.phase }], guard := none }) (v := _) [] [] rfl rfl (by kernel_rfl) (by kernel_rfl) (by kernel_rfl) (by kernel_rfl) (by kernel_rfl) (by kernel_rfl) (by kernel_rfl) (fun _ _ _ h => h) (Or.inl ⟨by rfl, Or.inl ?hy122⟩) ?rest122
                case hy122 => (intro w' kk ss; obtain ⟨u0, u1, u2⟩ := HC.out _ (hr0.trans kk); go_simp; first | done | with_reducible rfl)
                try simp only [Act.put, List.setIfInBounds_toArray, List.set_cons_zero, List.set_cons_succ]
                refine Reg.wpG_done (by kernel_rfl) (fun wq ke se => ?_) _
                refine NoPanic.normal ?_
                have hr0 := hr0.trans ke
                clear ke
                have KQ := K3.trans hr0
                clear hr0
                go_wp2_with (first
                  | (go_at_call 24; (with_reducible refine (CA.out _ KQ).mono ?_); rintro e w11 ⟨A11, m11, c11, rfl, -, hc, k11⟩; have K11 := KQ.trans k11)
                  | (go_at_call 26; (with_reducible refine (UA.out _ K11).mono ?_); rintro e w12 ⟨A12, m12, c12, rfl, -, hu, k12⟩; have K12 := K11.trans k12)
                  | (go_at_call 28; (with_reducible refine (XA.out _ K12).mono ?_); rintro e w13 ⟨A13, m13, c13, rfl, -, hm, k13⟩; have K13 := K12.trans k13)
                  | (go_at_call 14; (with_reducible refine (RC.out _ _ (hc.since stR (k12.trans k13))).mono ?_); rintro e w14 ⟨rfl, k14⟩; have K14 := K13.trans k14)
                  | (go_at_call 14; (with_reducible refine (RU.out _ _ (hu.since stR (k13.trans k14))).mono ?_); rintro e w15 ⟨rfl, k15⟩; have K15 := K14.trans k15)
                  | (go_at_call 14; (with_reducible refine (RX.out _ _ (hm.since stR (k14.trans k15))).mono ?_); rintro e w16 ⟨rfl, k16⟩; have K16 := K15.trans k16)
                  | (go_at_call 20; (with_reducible refine (HC1.out _ _ (hc.since stR ((((k12.trans k13).trans k14).trans k15).trans k16))).mono ?_); rintro e w17 ⟨rfl, k17⟩; have K17 := K16.trans k17)
                  | (go_at_call 20; (with_reducible refine (HA.out _ K17).mono ?_); rintro e w18 ⟨rfl, k18⟩; have K18 := K17.trans k18)
                  | (go_at_call 20; (with_reducible refine (HU.out _ _ (hu.since stR (((((k13.trans k14).trans k15).trans k16).trans k17).trans k18))).mono ?_); rintro e w19 ⟨rfl, k19⟩; have K19 := K18.trans k19)
                  | (go_at_call 20; (with_reducible refine (HA.out _ K19).mono ?_); rintro e w20 ⟨rfl, k20⟩; have K20 := K19.trans k20)
                  | (go_at_call 20; (with_reducible refine (HX.out _ _ (hm.since stR ((((((k14.trans k15).trans k16).trans k17).trans k18).trans k19).trans k20))).mono ?_); rintro e w21 ⟨rfl, k21⟩; have K21 := K20.trans k21)
                  | (go_at_call 20; (with_reducible refine (HA.out _ K21).mono ?_); rintro e w22 ⟨rfl, k22⟩; have K22 := K21.trans k22)
                  | (go_at_call 20; (with_reducible refine (HH.out _ K22).mono ?_); rintro e w23 ⟨rfl, k23⟩; have K23 := K22.trans k23))
                go_ret
                exact ⟨by first | (simp; done) | (simp; omega), K23⟩
        · rw [show decide (x2 ≤ z2) = false from decide_eq_false c1, Bool.false_and] at eC
          by_cases c3 : z2 = x2
          · have n3 : (z2 != x2) = false := by rw [c3, bne_self_eq_false]
            rw [show (!decide (z2 = x2)) = false by simp [c3]] at eU
            clear c3
            cases hb : has z1 z2 with
            | false =>
              rw [hb] at eX HH
              rw [eC] at HC1
              rw [eU] at HU
              rw [eX] at HX
              clear eC eU eX
              clear hb
              subst hW0
              go_enter Try.func6, Try.ntmps6
              go_wp2_with (first
                | (go_at_call 10; (with_reducible refine AL.out.mono ?_); rintro e w1 ⟨rfl, k1⟩; have K1 := K00.out.trans k1)
                | (go_at_call 14; (with_reducible refine (R0.out _ K1).mono ?_); rintro e w2 ⟨rfl, k2⟩; have K2 := K1.trans k2)
                | (go_at_call 14; (with_reducible refine (R1.out _ K2).mono ?_); rintro e w3 ⟨rfl, k3⟩; have K3 := K2.trans k3))
              have HC := Lib.hid (fun W (k : Since w3 W) => HB.out W ((k1.trans k2).trans (k3.trans k)))
              have hr0 : Since w3 w3.drew := Since.drew (Since.refl w3)
              refine wp_region_noPanic ?_
              refine Reg.wp_region_G (S := fun _ => True) (fun j => [].contains j) (by kernel_rfl) trivial ?_
              refine' Reg.wpG_take (i := 0) (oi := { dst := some 33, op := Op.indexAddr 44 (Operand.tmp 5) (Operand.const (Value.int IntKind.i64 0)), type := 0, pos := "law.go:69", after := #[], guard := none }) (v := _) [1, 6, 7, 8] [] rfl rfl (by kernel_rfl) (by kernel_rfl) (by kernel_rfl) (by kernel_rfl) (by kernel_rfl) (by kernel_rfl) (by kernel_rfl) (fun _ _ _ h => h) (Or.inl ⟨by rfl, Or.inl ?hy123⟩) ?rest123
              case hy123 => (intro w' kk ss; obtain ⟨u0, u1, u2⟩ := HC.out _ (hr0.trans kk); go_simp; first | done | with_reducible rfl)
              try simp only [Act.put, List.setIfInBounds_toArray, List.set_cons_zero, List.set_cons_succ]
              refine' Reg.wpG_take (i := 1) (oi := { dst := some 34, op := Op.load 2 (Operand.tmp 33), type := 2, pos := "law.go:69", after := #[{ on := 0, ground := Ground.data }], guard := none }) (v := _) [6, 7, 8] [] rfl rfl (by kernel_rfl) (by kernel_rfl) (by kernel_rfl) (by kernel_rfl) (by kernel_rfl) (by kernel_rfl) (by kernel_rfl) (fun _ _ _ h => h) (Or.inl ⟨by rfl, Or.inl ?hy124⟩) ?rest124
              case hy124 => (intro w' kk ss; obtain ⟨u0, u1, u2⟩ := HC.out _ (hr0.trans kk); go_simp; first | done | with_reducible rfl)
              try simp only [Act.put, List.setIfInBounds_toArray, List.set_cons_zero, List.set_cons_succ]
              refine' Reg.wpG_take (i := 2) (oi := { dst := some 35, op := Op.indexAddr 44 (Operand.tmp 5) (Operand.const (Value.int IntKind.i64 1)), type := 0, pos := "law.go:69", after := #[{ on := 6, ground := Ground.gcOnly Departure.lateStores }], guard := none }) (v := _) [3, 7, 8] [] rfl rfl (by kernel_rfl) (by kernel_rfl) (by kernel_rfl) (by kernel_rfl) (by kernel_rfl) (by kernel_rfl) (by kernel_rfl) (fun _ _ _ h => h) (Or.inl ⟨by rfl, Or.inl ?hy125⟩) ?rest125
              case hy125 => (intro w' kk ss; obtain ⟨u0, u1, u2⟩ := HC.out _ (hr0.trans kk); go_simp; first | done | with_reducible rfl)
              try simp only [Act.put, List.setIfInBounds_toArray, List.set_cons_zero, List.set_cons_succ]
              refine' Reg.wpG_take (i := 3) (oi := { dst := some 36, op := Op.load 2 (Operand.tmp 35), type := 2, pos := "law.go:69", after := #[{ on := 2, ground := Ground.data }, { on := 6, ground := Ground.gcOnly Departure.lateStores }], guard := none }) (v := _) [7, 8] [] rfl rfl (by kernel_rfl) (by kernel_rfl) (by kernel_rfl) (by kernel_rfl) (by kernel_rfl) (by kernel_rfl) (by kernel_rfl) (fun _ _ _ h => h) (Or.inl ⟨by rfl, Or.inl ?hy126⟩) ?rest126
              case hy126 => (intro w' kk ss; obtain ⟨u0, u1, u2⟩ := HC.out _ (hr0.trans kk); go_simp; first | done | with_reducible rfl)
              try simp only [Act.put, List.setIfInBounds_toArray, List.set_cons_zero, List.set_cons_succ]
              refine' Reg.wpG_take (i := 4) (oi := { dst := some 37, op := Op.indexAddr 44 (Operand.tmp 5) (Operand.const (Value.int IntKind.i64 2)), type := 0, pos := "law.go:69", after := #[{ on := 7, ground := Ground.gcOnly Departure.lateStores }], guard := none }) (v := _) [5, 8] [] rfl rfl (by kernel_rfl) (by kernel_rfl) (by kernel_rfl) (by kernel_rfl) (by kernel_rfl) (by kernel_rfl) (by kernel_rfl) (fun _ _ _ h => h) (Or.inl ⟨by rfl, Or.inl ?hy127⟩) ?rest127
              case hy127 => (intro w' kk ss; obtain ⟨u0, u1, u2⟩ := HC.out _ (hr0.trans kk); go_simp; first | done | with_reducible rfl)
              try simp only [Act.put, List.setIfInBounds_toArray, List.set_cons_zero, List.set_cons_succ]
              refine' Reg.wpG_take (i := 5) (oi := { dst := some 38, op := Op.load 2 (Operand.tmp 37), type := 2, pos := "law.go:69", after := #[{ on := 4, ground := Ground.data }, { on := 7, ground := Ground.gcOnly Departure.lateStores }], guard := none }) (v := _) [8] [] rfl rfl (by kernel_rfl) (by kernel_rfl) (by kernel_rfl) (by kernel_rfl) (by kernel_rfl) (by kernel_rfl) (by kernel_rfl) (fun _ _ _ h => h) (Or.inl ⟨by rfl, Or.inl ?hy128⟩) ?rest128
              case hy128 => (intro w' kk ss; obtain ⟨u0, u1, u2⟩ := HC.out _ (hr0.trans kk); go_simp; first | done | with_reducible rfl)
              try simp only [Act.put, List.setIfInBounds_toArray, List.set_cons_zero, List.set_cons_succ]
              refine' Reg.wpG_take (i := 6) (oi := { dst := some 7, op := Op.assign (Operand.tmp 34), type := 2, pos := "law.go:69", after := #[{ on := 1, ground := Ground.data }, { on := 0, ground := Ground.phase }, { on := 1, ground := Ground.phase }, { on := 2, ground := Ground.textOnly Departure.lateStores }, { on := 3, ground := Ground.textOnly Departure.lateStores }, { on := 4, ground := Ground.textOnly Departure.lateStores }, { on := 5, ground := Ground.textOnly Departure.lateStores }], guard := none }) (v := _) [7, 8] [] rfl rfl (by kernel_rfl) (by kernel_rfl) (by kernel_rfl) (by kernel_rfl) (by kernel_rfl) (by kernel_rfl) (by kernel_rfl) (fun _ _ _ h => h) (Or.inl ⟨by rfl, Or.inl ?hy129⟩) ?rest129
              case hy129 => (intro w' kk ss; obtain ⟨u0, u1, u2⟩ := HC.out _ (hr0.trans kk); go_simp; first | done | with_reducible rfl)
              try simp only [Act.put, List.setIfInBounds_toArray, List.set_cons_zero, List.set_cons_succ]
              refine' Reg.wpG_take (i := 7) (oi := { dst := some 8, op := Op.assign (Operand.tmp 36), type := 2, pos := "law.go:69", after := #[{ on := 3, ground := Ground.data }, { on := 6, ground := Ground.chain }, { on := 0, ground := Ground.phase }, { on := 1, ground := Ground.phase }, { on := 2, ground := Ground.phase }, { on := 3, ground := Ground.phase }, { on := 4, ground := Ground.textOnly Departure.lateStores }, { on := 5, ground := Ground.textOnly Departure.lateStores }, { on := 6, ground := Ground.phase }], guard := none }) (v := _) [8] [] rfl rfl (by kernel_rfl) (by kernel_rfl) (by kernel_rfl) (by kernel_rfl) (by kernel_rfl) (by kernel_rfl) (by kernel_rfl) (fun _ _ _ h => h) (Or.inl ⟨by rfl, Or.inl ?hy130⟩) ?rest130
              case hy130 => (intro w' kk ss; obtain ⟨u0, u1, u2⟩ := HC.out _ (hr0.trans kk); go_simp; first | done | with_reducible rfl)
              try simp only [Act.put, List.setIfInBounds_toArray, List.set_cons_zero, List.set_cons_succ]
              refine' Reg.wpG_take (i := 8) (oi := { dst := some 9, op := Op.assign (Operand.tmp 38), type := 2, pos := "law.go:69", after := #[{ on := 5, ground := Ground.data }, { on := 7, ground := Ground.chain }, { on := 0, ground := Ground.phase }, { on := 1, ground := Ground.phase }, { on := 2, ground := Ground.phase }, { on := 3, ground := Ground.phase }, { on := 4, ground := Ground.phase }, { on := 5, ground := Ground.phase }, { on := 6, ground := Ground.phase }, { on := 7, ground := Ground.phase }], guard := none }) (v := _) [] [] rfl rfl (by kernel_rfl) (by kernel_rfl) (by kernel_rfl) (by kernel_rfl) (by kernel_rfl) (by kernel_rfl) (by kernel_rfl) (fun _ _ _ h => h) (Or.inl ⟨by rfl, Or.inl ?hy131⟩) ?rest131
              case hy131 => (intro w' kk ss; obtain ⟨u0, u1, u2⟩ := HC.out _ (hr0.trans kk); go_simp; first | done | with_reducible rfl)
              try simp only [Act.put, List.setIfInBounds_toArray, List.set_cons_zero, List.set_cons_succ]
              refine Reg.wpG_done (by kernel_rfl) (fun wq ke se => ?_) _
              refine NoPanic.normal ?_
              have hr0 := hr0.trans ke
              clear ke
              have KQ := K3.trans hr0
              clear hr0
              go_wp2_with (first
                | (go_at_call 24; (with_reducible refine (CA.out _ KQ).mono ?_); rintro e w11 ⟨A11, m11, c11, rfl, -, hc, k11⟩; have K11 := KQ.trans k11)
                | (go_at_call 26; (with_reducible refine (UA.out _ K11).mono ?_); rintro e w12 ⟨A12, m12, c12, rfl, -, hu, k12⟩; have K12 := K11.trans k12)
                | (go_at_call 28; (with_reducible refine (XA.out _ K12).mono ?_); rintro e w13 ⟨A13, m13, c13, rfl, -, hm, k13⟩; have K13 := K12.trans k13)
                | (go_at_call 14; (with_reducible refine (RC.out _ _ (hc.since stR (k12.trans k13))).mono ?_); rintro e w14 ⟨rfl, k14⟩; have K14 := K13.trans k14)
                | (go_at_call 14; (with_reducible refine (RU.out _ _ (hu.since stR (k13.trans k14))).mono ?_); rintro e w15 ⟨rfl, k15⟩; have K15 := K14.trans k15)
                | (go_at_call 14; (with_reducible refine (RX.out _ _ (hm.since stR (k14.trans k15))).mono ?_); rintro e w16 ⟨rfl, k16⟩; have K16 := K15.trans k16)
                | (go_at_call 20; (with_reducible refine (HC1.out _ _ (hc.since stR ((((k12.trans k13).trans k14).trans k15).trans k16))).mono ?_); rintro e w17 ⟨rfl, k17⟩; have K17 := K16.trans k17)
                | (go_at_call 20; (with_reducible refine (HA.out _ K17).mono ?_); rintro e w18 ⟨rfl, k18⟩; have K18 := K17.trans k18)
                | (go_at_call 20; (with_reducible refine (HU.out _ _ (hu.since stR (((((k13.trans k14).trans k15).trans k16).trans k17).trans k18))).mono ?_); rintro e w19 ⟨rfl, k19⟩; have K19 := K18.trans k19)
                | (go_at_call 20; (with_reducible refine (HA.out _ K19).mono ?_); rintro e w20 ⟨rfl, k20⟩; have K20 := K19.trans k20)
                | (go_at_call 20; (with_reducible refine (HX.out _ _ (hm.since stR ((((((k14.trans k15).trans k16).trans k17).trans k18).trans k19).trans k20))).mono ?_); rintro e w21 ⟨rfl, k21⟩; have K21 := K20.trans k21)
                | (go_at_call 20; (with_reducible refine (HA.out _ K21).mono ?_); rintro e w22 ⟨rfl, k22⟩; have K22 := K21.trans k22)
                | (go_at_call 20; (with_reducible refine (HH.out _ K22).mono ?_); rintro e w23 ⟨rfl, k23⟩; have K23 := K22.trans k23))
              go_ret
              exact ⟨by first | (simp; done) | (simp; omega), K23⟩
            | true =>
              rw [hb] at eX HH
              rw [eC] at HC1
              rw [eU] at HU
              rw [eX] at HX
              clear eC eU eX
              clear hb
              subst hW0
              go_enter Try.func6, Try.ntmps6
              go_wp2_with (first
                | (go_at_call 10; (with_reducible refine AL.out.mono ?_); rintro e w1 ⟨rfl, k1⟩; have K1 := K00.out.trans k1)
                | (go_at_call 14; (with_reducible refine (R0.out _ K1).mono ?_); rintro e w2 ⟨rfl, k2⟩; have K2 := K1.trans k2)
                | (go_at_call 14; (with_reducible refine (R1.out _ K2).mono ?_); rintro e w3 ⟨rfl, k3⟩; have K3 := K2.trans k3))
              have HC := Lib.hid (fun W (k : Since w3 W) => HB.out W ((k1.trans k2).trans (k3.trans k)))
              have hr0 : Since w3 w3.drew := Since.drew (Since.refl w3)
              refine wp_region_noPanic ?_
              refine Reg.wp_region_G (S := fun _ => True) (fun j => [].contains j) (by kernel_rfl) trivial ?_
              refine' Reg.wpG_take (i := 0) (oi := { dst := some 33, op := Op.indexAddr 44 (Operand.tmp 5) (Operand.const (Value.int IntKind.i64 0)), type := 0, pos := "law.go:69", after := #[], guard := none }) (v := _) [1, 6, 7, 8] [] rfl rfl (by kernel_rfl) (by kernel_rfl) (by kernel_rfl) (by kernel_rfl) (by kernel_rfl) (by kernel_rfl) (by kernel_rfl) (fun _ _ _ h => h) (Or.inl ⟨by rfl, Or.inl ?hy132⟩) ?rest132
              case hy132 => (intro w' kk ss; obtain ⟨u0, u1, u2⟩ := HC.out _ (hr0.trans kk); go_simp; first | done | with_reducible rfl)
              try simp only [Act.put, List.setIfInBounds_toArray, List.set_cons_zero, List.set_cons_succ]
              refine' Reg.wpG_take (i := 1) (oi := { dst := some 34, op := Op.load 2 (Operand.tmp 33), type := 2, pos := "law.go:69", after := #[{ on := 0, ground := Ground.data }], guard := none }) (v := _) [6, 7, 8] [] rfl rfl (by kernel_rfl) (by kernel_rfl) (by kernel_rfl) (by kernel_rfl) (by kernel_rfl) (by kernel_rfl) (by kernel_rfl) (fun _ _ _ h => h) (Or.inl ⟨by rfl, Or.inl ?hy133⟩) ?rest133
              case hy133 => (intro w' kk ss; obtain ⟨u0, u1, u2⟩ := HC.out _ (hr0.trans kk); go_simp; first | done | with_reducible rfl)
              try simp only [Act.put, List.setIfInBounds_toArray, List.set_cons_zero, List.set_cons_succ]
              refine' Reg.wpG_take (i := 2) (oi := { dst := some 35, op := Op.indexAddr 44 (Operand.tmp 5) (Operand.const (Value.int IntKind.i64 1)), type := 0, pos := "law.go:69", after := #[{ on := 6, ground := Ground.gcOnly Departure.lateStores }], guard := none }) (v := _) [3, 7, 8] [] rfl rfl (by kernel_rfl) (by kernel_rfl) (by kernel_rfl) (by kernel_rfl) (by kernel_rfl) (by kernel_rfl) (by kernel_rfl) (fun _ _ _ h => h) (Or.inl ⟨by rfl, Or.inl ?hy134⟩) ?rest134
              case hy134 => (intro w' kk ss; obtain ⟨u0, u1, u2⟩ := HC.out _ (hr0.trans kk); go_simp; first | done | with_reducible rfl)
              try simp only [Act.put, List.setIfInBounds_toArray, List.set_cons_zero, List.set_cons_succ]
              refine' Reg.wpG_take (i := 3) (oi := { dst := some 36, op := Op.load 2 (Operand.tmp 35), type := 2, pos := "law.go:69", after := #[{ on := 2, ground := Ground.data }, { on := 6, ground := Ground.gcOnly Departure.lateStores }], guard := none }) (v := _) [7, 8] [] rfl rfl (by kernel_rfl) (by kernel_rfl) (by kernel_rfl) (by kernel_rfl) (by kernel_rfl) (by kernel_rfl) (by kernel_rfl) (fun _ _ _ h => h) (Or.inl ⟨by rfl, Or.inl ?hy135⟩) ?rest135
              case hy135 => (intro w' kk ss; obtain ⟨u0, u1, u2⟩ := HC.out _ (hr0.trans kk); go_simp; first | done | with_reducible rfl)
              try simp only [Act.put, List.setIfInBounds_toArray, List.set_cons_zero, List.set_cons_succ]
              refine' Reg.wpG_take (i := 4) (oi := { dst := some 37, op := Op.indexAddr 44 (Operand.tmp 5) (Operand.const (Value.int IntKind.i64 2)), type := 0, pos := "law.go:69", after := #[{ on := 7, ground := Ground.gcOnly Departure.lateStores }], guard := none }) (v := _) [5, 8] [] rfl rfl (by kernel_rfl) (by kernel_rfl) (by kernel_rfl) (by kernel_rfl) (by kernel_rfl) (by kernel_rfl) (by kernel_rfl) (fun _ _ _ h => h) (Or.inl ⟨by rfl, Or.inl ?hy136⟩) ?rest136
              case hy136 => (intro w' kk ss; obtain ⟨u0, u1, u2⟩ := HC.out _ (hr0.trans kk); go_simp; first | done | with_reducible rfl)
              try simp only [Act.put, List.setIfInBounds_toArray, List.set_cons_zero, List.set_cons_succ]
              refine' Reg.wpG_take (i := 5) (oi := { dst := some 38, op := Op.load 2 (Operand.tmp 37), type := 2, pos := "law.go:69", after := #[{ on := 4, ground := Ground.data }, { on := 7, ground := Ground.gcOnly Departure.lateStores }], guard := none }) (v := _) [8] [] rfl rfl (by kernel_rfl) (by kernel_rfl) (by kernel_rfl) (by kernel_rfl) (by kernel_rfl) (by kernel_rfl) (by kernel_rfl) (fun _ _ _ h => h) (Or.inl ⟨by rfl, Or.inl ?hy137⟩) ?rest137
              case hy137 => (intro w' kk ss; obtain ⟨u0, u1, u2⟩ := HC.out _ (hr0.trans kk); go_simp; first | done | with_reducible rfl)
              try simp only [Act.put, List.setIfInBounds_toArray, List.set_cons_zero, List.set_cons_succ]
              refine' Reg.wpG_take (i := 6) (oi := { dst := some 7, op := Op.assign (Operand.tmp 34), type := 2, pos := "law.go:69", after := #[{ on := 1, ground := Ground.data }, { on := 0, ground := Ground.phase }, { on := 1, ground := Ground.phase }, { on := 2, ground := Ground.textOnly Departure.lateStores }, { on := 3, ground := Ground.textOnly Departure.lateStores }, { on := 4, ground := Ground.textOnly Departure.lateStores }, { on := 5, ground := Ground.textOnly Departure.lateStores }], guard := none }) (v := _) [7, 8] [] rfl rfl (by kernel_rfl) (by kernel_rfl) (by kernel_rfl) (by kernel_rfl) (by kernel_rfl) (by kernel_rfl) (by kernel_rfl) (fun _ _ _ h => h) (Or.inl ⟨by rfl, Or.inl ?hy138⟩) ?rest138
              case hy138 => (intro w' kk ss; obtain ⟨u0, u1, u2⟩ := HC.out _ (hr0.trans kk); go_simp; first | done | with_reducible rfl)
              try simp only [Act.put, List.setIfInBounds_toArray, List.set_cons_zero, List.set_cons_succ]
              refine' Reg.wpG_take (i := 7) (oi := { dst := some 8, op := Op.assign (Operand.tmp 36), type := 2, pos := "law.go:69", after := #[{ on := 3, ground := Ground.data }, { on := 6, ground := Ground.chain }, { on := 0, ground := Ground.phase }, { on := 1, ground := Ground.phase }, { on := 2, ground := Ground.phase }, { on := 3, ground := Ground.phase }, { on := 4, ground := Ground.textOnly Departure.lateStores }, { on := 5, ground := Ground.textOnly Departure.lateStores }, { on := 6, ground := Ground.phase }], guard := none }) (v := _) [8] [] rfl rfl (by kernel_rfl) (by kernel_rfl) (by kernel_rfl) (by kernel_rfl) (by kernel_rfl) (by kernel_rfl) (by kernel_rfl) (fun _ _ _ h => h) (Or.inl ⟨by rfl, Or.inl ?hy139⟩) ?rest139
              case hy139 => (intro w' kk ss; obtain ⟨u0, u1, u2⟩ := HC.out _ (hr0.trans kk); go_simp; first | done | with_reducible rfl)
              try simp only [Act.put, List.setIfInBounds_toArray, List.set_cons_zero, List.set_cons_succ]
              refine' Reg.wpG_take (i := 8) (oi := { dst := some 9, op := Op.assign (Operand.tmp 38), type := 2, pos := "law.go:69", after := #[{ on := 5, ground := Ground.data }, { on := 7, ground := Ground.chain }, { on := 0, ground := Ground.phase }, { on := 1, ground := Ground.phase }, { on := 2, ground := Ground.phase }, { on := 3, ground := Ground.phase }, { on := 4, ground := Ground.phase }, { on := 5, ground := Ground.phase }, { on := 6, ground := Ground.phase }, { on := 7, ground := Ground.phase }], guard := none }) (v := _) [] [] rfl rfl (by kernel_rfl) (by kernel_rfl) (by kernel_rfl) (by kernel_rfl) (by kernel_rfl) (by kernel_rfl) (by kernel_rfl) (fun _ _ _ h => h) (Or.inl ⟨by rfl, Or.inl ?hy140⟩) ?rest140
              case hy140 => (intro w' kk ss; obtain ⟨u0, u1, u2⟩ := HC.out _ (hr0.trans kk); go_simp; first | done | with_reducible rfl)
              try simp only [Act.put, List.setIfInBounds_toArray, List.set_cons_zero, List.set_cons_succ]
              refine Reg.wpG_done (by kernel_rfl) (fun wq ke se => ?_) _
              refine NoPanic.normal ?_
              have hr0 := hr0.trans ke
              clear ke
              have KQ := K3.trans hr0
              clear hr0
              go_wp2_with (first
                | (go_at_call 24; (with_reducible refine (CA.out _ KQ).mono ?_); rintro e w11 ⟨A11, m11, c11, rfl, -, hc, k11⟩; have K11 := KQ.trans k11)
                | (go_at_call 26; (with_reducible refine (UA.out _ K11).mono ?_); rintro e w12 ⟨A12, m12, c12, rfl, -, hu, k12⟩; have K12 := K11.trans k12)
                | (go_at_call 28; (with_reducible refine (XA.out _ K12).mono ?_); rintro e w13 ⟨A13, m13, c13, rfl, -, hm, k13⟩; have K13 := K12.trans k13)
                | (go_at_call 14; (with_reducible refine (RC.out _ _ (hc.since stR (k12.trans k13))).mono ?_); rintro e w14 ⟨rfl, k14⟩; have K14 := K13.trans k14)
                | (go_at_call 14; (with_reducible refine (RU.out _ _ (hu.since stR (k13.trans k14))).mono ?_); rintro e w15 ⟨rfl, k15⟩; have K15 := K14.trans k15)
                | (go_at_call 14; (with_reducible refine (RX.out _ _ (hm.since stR (k14.trans k15))).mono ?_); rintro e w16 ⟨rfl, k16⟩; have K16 := K15.trans k16)
                | (go_at_call 20; (with_reducible refine (HC1.out _ _ (hc.since stR ((((k12.trans k13).trans k14).trans k15).trans k16))).mono ?_); rintro e w17 ⟨rfl, k17⟩; have K17 := K16.trans k17)
                | (go_at_call 20; (with_reducible refine (HA.out _ K17).mono ?_); rintro e w18 ⟨rfl, k18⟩; have K18 := K17.trans k18)
                | (go_at_call 20; (with_reducible refine (HU.out _ _ (hu.since stR (((((k13.trans k14).trans k15).trans k16).trans k17).trans k18))).mono ?_); rintro e w19 ⟨rfl, k19⟩; have K19 := K18.trans k19)
                | (go_at_call 20; (with_reducible refine (HA.out _ K19).mono ?_); rintro e w20 ⟨rfl, k20⟩; have K20 := K19.trans k20)
                | (go_at_call 20; (with_reducible refine (HX.out _ _ (hm.since stR ((((((k14.trans k15).trans k16).trans k17).trans k18).trans k19).trans k20))).mono ?_); rintro e w21 ⟨rfl, k21⟩; have K21 := K20.trans k21)
                | (go_at_call 20; (with_reducible refine (HA.out _ K21).mono ?_); rintro e w22 ⟨rfl, k22⟩; have K22 := K21.trans k22)
                | (go_at_call 20; (with_reducible refine (HH.out _ K22).mono ?_); rintro e w23 ⟨rfl, k23⟩; have K23 := K22.trans k23))
              go_ret
              exact ⟨by first | (simp; done) | (simp; omega), K23⟩
          · have n3 : (z2 != x2) = true := by rw [bne_iff_ne]; exact c3
            rw [show (!decide (z2 = x2)) = true by simp [c3]] at eU
            clear c3
            cases hb : has z1 z2 with
            | false =>
              rw [hb] at eX HH
              rw [eC] at HC1
              rw [eU] at HU
              rw [eX] at HX
              clear eC eU eX
              clear hb
              subst hW0
              go_enter Try.func6, Try.ntmps6
              go_wp2_with (first
                | (go_at_call 10; (with_reducible refine AL.out.mono ?_); rintro e w1 ⟨rfl, k1⟩; have K1 := K00.out.trans k1)
                | (go_at_call 14; (with_reducible refine (R0.out _ K1).mono ?_); rintro e w2 ⟨rfl, k2⟩; have K2 := K1.trans k2)
                | (go_at_call 14; (with_reducible refine (R1.out _ K2).mono ?_); rintro e w3 ⟨rfl, k3⟩; have K3 := K2.trans k3))
              have HC := Lib.hid (fun W (k : Since w3 W) => HB.out W ((k1.trans k2).trans (k3.trans k)))
              have hr0 : Since w3 w3.drew := Since.drew (Since.refl w3)
              refine wp_region_noPanic ?_
              refine Reg.wp_region_G (S := fun _ => True) (fun j => [].contains j) (by kernel_rfl) trivial ?_
              refine' Reg.wpG_take (i := 0) (oi := { dst := some 33, op := Op.indexAddr 44 (Operand.tmp 5) (Operand.const (Value.int IntKind.i64 0)), type := 0, pos := "law.go:69", after := #[], guard := none }) (v := _) [1, 6, 7, 8] [] rfl rfl (by kernel_rfl) (by kernel_rfl) (by kernel_rfl) (by kernel_rfl) (by kernel_rfl) (by kernel_rfl) (by kernel_rfl) (fun _ _ _ h => h) (Or.inl ⟨by rfl, Or.inl ?hy141⟩) ?rest141
              case hy141 => (intro w' kk ss; obtain ⟨u0, u1, u2⟩ := HC.out _ (hr0.trans kk); go_simp; first | done | with_reducible rfl)
              try simp only [Act.put, List.setIfInBounds_toArray, List.set_cons_zero, List.set_cons_succ]
              refine' Reg.wpG_take (i := 1) (oi := { dst := some 34, op := Op.load 2 (Operand.tmp 33), type := 2, pos := "law.go:69", after := #[{ on := 0, ground := Ground.data }], guard := none }) (v := _) [6, 7, 8] [] rfl rfl (by kernel_rfl) (by kernel_rfl) (by kernel_rfl) (by kernel_rfl) (by kernel_rfl) (by kernel_rfl) (by kernel_rfl) (fun _ _ _ h => h) (Or.inl ⟨by rfl, Or.inl ?hy142⟩) ?rest142
              case hy142 => (intro w' kk ss; obtain ⟨u0, u1, u2⟩ := HC.out _ (hr0.trans kk); go_simp; first | done | with_reducible rfl)
              try simp only [Act.put, List.setIfInBounds_toArray, List.set_cons_zero, List.set_cons_succ]
              refine' Reg.wpG_take (i := 2) (oi := { dst := some 35, op := Op.indexAddr 44 (Operand.tmp 5) (Operand.const (Value.int IntKind.i64 1)), type := 0, pos := "law.go:69", after := #[{ on := 6, ground := Ground.gcOnly Departure.lateStores }], guard := none }) (v := _) [3, 7, 8] [] rfl rfl (by kernel_rfl) (by kernel_rfl) (by kernel_rfl) (by kernel_rfl) (by kernel_rfl) (by kernel_rfl) (by kernel_rfl) (fun _ _ _ h => h) (Or.inl ⟨by rfl, Or.inl ?hy143⟩) ?rest143
              case hy143 => (intro w' kk ss; obtain ⟨u0, u1, u2⟩ := HC.out _ (hr0.trans kk); go_simp; first | done | with_reducible rfl)
              try simp only [Act.put, List.setIfInBounds_toArray, List.set_cons_zero, List.set_cons_succ]
              refine' Reg.wpG_take (i := 3) (oi := { dst := some 36, op := Op.load 2 (Operand.tmp 35), type := 2, pos := "law.go:69", after := #[{ on := 2, ground := Ground.data }, { on := 6, ground := Ground.gcOnly Departure.lateStores }], guard := none }) (v := _) [7, 8] [] rfl rfl (by kernel_rfl) (by kernel_rfl) (by kernel_rfl) (by kernel_rfl) (by kernel_rfl) (by kernel_rfl) (by kernel_rfl) (fun _ _ _ h => h) (Or.inl ⟨by rfl, Or.inl ?hy144⟩) ?rest144
              case hy144 => (intro w' kk ss; obtain ⟨u0, u1, u2⟩ := HC.out _ (hr0.trans kk); go_simp; first | done | with_reducible rfl)
              try simp only [Act.put, List.setIfInBounds_toArray, List.set_cons_zero, List.set_cons_succ]
              refine' Reg.wpG_take (i := 4) (oi := { dst := some 37, op := Op.indexAddr 44 (Operand.tmp 5) (Operand.const (Value.int IntKind.i64 2)), type := 0, pos := "law.go:69", after := #[{ on := 7, ground := Ground.gcOnly Departure.lateStores }], guard := none }) (v := _) [5, 8] [] rfl rfl (by kernel_rfl) (by kernel_rfl) (by kernel_rfl) (by kernel_rfl) (by kernel_rfl) (by kernel_rfl) (by kernel_rfl) (fun _ _ _ h => h) (Or.inl ⟨by rfl, Or.inl ?hy145⟩) ?rest145
              case hy145 => (intro w' kk ss; obtain ⟨u0, u1, u2⟩ := HC.out _ (hr0.trans kk); go_simp; first | done | with_reducible rfl)
              try simp only [Act.put, List.setIfInBounds_toArray, List.set_cons_zero, List.set_cons_succ]
              refine' Reg.wpG_take (i := 5) (oi := { dst := some 38, op := Op.load 2 (Operand.tmp 37), type := 2, pos := "law.go:69", after := #[{ on := 4, ground := Ground.data }, { on := 7, ground := Ground.gcOnly Departure.lateStores }], guard := none }) (v := _) [8] [] rfl rfl (by kernel_rfl) (by kernel_rfl) (by kernel_rfl) (by kernel_rfl) (by kernel_rfl) (by kernel_rfl) (by kernel_rfl) (fun _ _ _ h => h) (Or.inl ⟨by rfl, Or.inl ?hy146⟩) ?rest146
              case hy146 => (intro w' kk ss; obtain ⟨u0, u1, u2⟩ := HC.out _ (hr0.trans kk); go_simp; first | done | with_reducible rfl)
              try simp only [Act.put, List.setIfInBounds_toArray, List.set_cons_zero, List.set_cons_succ]
              refine' Reg.wpG_take (i := 6) (oi := { dst := some 7, op := Op.assign (Operand.tmp 34), type := 2, pos := "law.go:69", after := #[{ on := 1, ground := Ground.data }, { on := 0, ground := Ground.phase }, { on := 1, ground := Ground.phase }, { on := 2, ground := Ground.textOnly Departure.lateStores }, { on := 3, ground := Ground.textOnly Departure.lateStores }, { on := 4, ground := Ground.textOnly Departure.lateStores }, { on := 5, ground := Ground.textOnly Departure.lateStores }], guard := none }) (v := _) [7, 8] [] rfl rfl (by kernel_rfl) (by kernel_rfl) (by kernel_rfl) (by kernel_rfl) (by kernel_rfl) (by kernel_rfl) (by kernel_rfl) (fun _ _ _ h => h) (Or.inl ⟨by rfl, Or.inl ?hy147⟩) ?rest147
              case hy147 => (intro w' kk ss; obtain ⟨u0, u1, u2⟩ := HC.out _ (hr0.trans kk); go_simp; first | done | with_reducible rfl)
              try simp only [Act.put, List.setIfInBounds_toArray, List.set_cons_zero, List.set_cons_succ]
              refine' Reg.wpG_take (i := 7) (oi := { dst := some 8, op := Op.assign (Operand.tmp 36), type := 2, pos := "law.go:69", after := #[{ on := 3, ground := Ground.data }, { on := 6, ground := Ground.chain }, { on := 0, ground := Ground.phase }, { on := 1, ground := Ground.phase }, { on := 2, ground := Ground.phase }, { on := 3, ground := Ground.phase }, { on := 4, ground := Ground.textOnly Departure.lateStores }, { on := 5, ground := Ground.textOnly Departure.lateStores }, { on := 6, ground := Ground.phase }], guard := none }) (v := _) [8] [] rfl rfl (by kernel_rfl) (by kernel_rfl) (by kernel_rfl) (by kernel_rfl) (by kernel_rfl) (by kernel_rfl) (by kernel_rfl) (fun _ _ _ h => h) (Or.inl ⟨by rfl, Or.inl ?hy148⟩) ?rest148
              case hy148 => (intro w' kk ss; obtain ⟨u0, u1, u2⟩ := HC.out _ (hr0.trans kk); go_simp; first | done | with_reducible rfl)
              try simp only [Act.put, List.setIfInBounds_toArray, List.set_cons_zero, List.set_cons_succ]
              refine' Reg.wpG_take (i := 8) (oi := { dst := some 9, op := Op.assign (Operand.tmp 38), type := 2, pos := "law.go:69", after := #[{ on := 5, ground := Ground.data }, { on := 7, ground := Ground.chain }, { on := 0, ground := Ground.phase }, { on := 1, ground := Ground.phase }, { on := 2, ground := Ground.phase }, { on := 3, ground := Ground.phase }, { on := 4, ground := Ground.phase }, { on := 5, ground := Ground.phase }, { on := 6, ground := Ground.phase }, { on := 7, ground := Ground.phase }], guard := none }) (v := _) [] [] rfl rfl (by kernel_rfl) (by kernel_rfl) (by kernel_rfl) (by kernel_rfl) (by kernel_rfl) (by kernel_rfl) (by kernel_rfl) (fun _ _ _ h => h) (Or.inl ⟨by rfl, Or.inl ?hy149⟩) ?rest149
              case hy149 => (intro w' kk ss; obtain ⟨u0, u1, u2⟩ := HC.out _ (hr0.trans kk); go_simp; first | done | with_reducible rfl)
              try simp only [Act.put, List.setIfInBounds_toArray, List.set_cons_zero, List.set_cons_succ]
              refine Reg.wpG_done (by kernel_rfl) (fun wq ke se => ?_) _
              refine NoPanic.normal ?_
              have hr0 := hr0.trans ke
              clear ke
              have KQ := K3.trans hr0
              clear hr0
              go_wp2_with (first
                | (go_at_call 24; (with_reducible refine (CA.out _ KQ).mono ?_); rintro e w11 ⟨A11, m11, c11, rfl, -, hc, k11⟩; have K11 := KQ.trans k11)
                | (go_at_call 26; (with_reducible refine (UA.out _ K11).mono ?_); rintro e w12 ⟨A12, m12, c12, rfl, -, hu, k12⟩; have K12 := K11.trans k12)
                | (go_at_call 28; (with_reducible refine (XA.out _ K12).mono ?_); rintro e w13 ⟨A13, m13, c13, rfl, -, hm, k13⟩; have K13 := K12.trans k13)
                | (go_at_call 14; (with_reducible refine (RC.out _ _ (hc.since stR (k12.trans k13))).mono ?_); rintro e w14 ⟨rfl, k14⟩; have K14 := K13.trans k14)
                | (go_at_call 14; (with_reducible refine (RU.out _ _ (hu.since stR (k13.trans k14))).mono ?_); rintro e w15 ⟨rfl, k15⟩; have K15 := K14.trans k15)
                | (go_at_call 14; (with_reducible refine (RX.out _ _ (hm.since stR (k14.trans k15))).mono ?_); rintro e w16 ⟨rfl, k16⟩; have K16 := K15.trans k16)
                | (go_at_call 20; (with_reducible refine (HC1.out _ _ (hc.since stR ((((k12.trans k13).trans k14).trans k15).trans k16))).mono ?_); rintro e w17 ⟨rfl, k17⟩; have K17 := K16.trans k17)
                | (go_at_call 20; (with_reducible refine (HA.out _ K17).mono ?_); rintro e w18 ⟨rfl, k18⟩; have K18 := K17.trans k18)
                | (go_at_call 20; (with_reducible refine (HU.out _ _ (hu.since stR (((((k13.trans k14).trans k15).trans k16).trans k17).trans k18))).mono ?_); rintro e w19 ⟨rfl, k19⟩; have K19 := K18.trans k19)
                | (go_at_call 20; (with_reducible refine (HA.out _ K19).mono ?_); rintro e w20 ⟨rfl, k20⟩; have K20 := K19.trans k20)
                | (go_at_call 20; (with_reducible refine (HX.out _ _ (hm.since stR ((((((k14.trans k15).trans k16).trans k17).trans k18).trans k19).trans k20))).mono ?_); rintro e w21 ⟨rfl, k21⟩; have K21 := K20.trans k21)
                | (go_at_call 20; (with_reducible refine (HA.out _ K21).mono ?_); rintro e w22 ⟨rfl, k22⟩; have K22 := K21.trans k22)
                | (go_at_call 20; (with_reducible refine (HH.out _ K22).mono ?_); rintro e w23 ⟨rfl, k23⟩; have K23 := K22.trans k23))
              go_ret
              exact ⟨by first | (simp; done) | (simp; omega), K23⟩
            | true =>
              rw [hb] at eX HH
              rw [eC] at HC1
              rw [eU] at HU
              rw [eX] at HX
              clear eC eU eX
              clear hb
              subst hW0
              go_enter Try.func6, Try.ntmps6
              go_wp2_with (first
                | (go_at_call 10; (with_reducible refine AL.out.mono ?_); rintro e w1 ⟨rfl, k1⟩; have K1 := K00.out.trans k1)
                | (go_at_call 14; (with_reducible refine (R0.out _ K1).mono ?_); rintro e w2 ⟨rfl, k2⟩; have K2 := K1.trans k2)
                | (go_at_call 14; (with_reducible refine (R1.out _ K2).mono ?_); rintro e w3 ⟨rfl, k3⟩; have K3 := K2.trans k3))
              have HC := Lib.hid (fun W (k : Since w3 W) => HB.out W ((k1.trans k2).trans (k3.trans k)))
              have hr0 : Since w3 w3.drew := Since.drew (Since.refl w3)
              refine wp_region_noPanic ?_
              refine Reg.wp_region_G (S := fun _ => True) (fun j => [].contains j) (by kernel_rfl) trivial ?_
              refine' Reg.wpG_take (i := 0) (oi := { dst := some 33, op := Op.indexAddr 44 (Operand.tmp 5) (Operand.const (Value.int IntKind.i64 0)), type := 0, pos := "law.go:69", after := #[], guard := none }) (v := _) [1, 6, 7, 8] [] rfl rfl (by kernel_rfl) (by kernel_rfl) (by kernel_rfl) (by kernel_rfl) (by kernel_rfl) (by kernel_rfl) (by kernel_rfl) (fun _ _ _ h => h) (Or.inl ⟨by rfl, Or.inl ?hy150⟩) ?rest150
              case hy150 => (intro w' kk ss; obtain ⟨u0, u1, u2⟩ := HC.out _ (hr0.trans kk); go_simp; first | done | with_reducible rfl)
              try simp only [Act.put, List.setIfInBounds_toArray, List.set_cons_zero, List.set_cons_succ]
              refine' Reg.wpG_take (i := 1) (oi := { dst := some 34, op := Op.load 2 (Operand.tmp 33), type := 2, pos := "law.go:69", after := #[{ on := 0, ground := Ground.data }], guard := none }) (v := _) [6, 7, 8] [] rfl rfl (by kernel_rfl) (by kernel_rfl) (by kernel_rfl) (by kernel_rfl) (by kernel_rfl) (by kernel_rfl) (by kernel_rfl) (fun _ _ _ h => h) (Or.inl ⟨by rfl, Or.inl ?hy151⟩) ?rest151
              case hy151 => (intro w' kk ss; obtain ⟨u0, u1, u2⟩ := HC.out _ (hr0.trans kk); go_simp; first | done | with_reducible rfl)
              try simp only [Act.put, List.setIfInBounds_toArray, List.set_cons_zero, List.set_cons_succ]
              refine' Reg.wpG_take (i := 2) (oi := { dst := some 35, op := Op.indexAddr 44 (Operand.tmp 5) (Operand.const (Value.int IntKind.i64 1)), type := 0, pos := "law.go:69", after := #[{ on := 6, ground := Ground.gcOnly Departure.lateStores }], guard := none }) (v := _) [3, 7, 8] [] rfl rfl (by kernel_rfl) (by kernel_rfl) (by kernel_rfl) (by kernel_rfl) (by kernel_rfl) (by kernel_rfl) (by kernel_rfl) (fun _ _ _ h => h) (Or.inl ⟨by rfl, Or.inl ?hy152⟩) ?rest152
              case hy152 => (intro w' kk ss; obtain ⟨u0, u1, u2⟩ := HC.out _ (hr0.trans kk); go_simp; first | done | with_reducible rfl)
              try simp only [Act.put, List.setIfInBounds_toArray, List.set_cons_zero, List.set_cons_succ]
              refine' Reg.wpG_take (i := 3) (oi := { dst := some 36, op := Op.load 2 (Operand.tmp 35), type := 2, pos := "law.go:69", after := #[{ on := 2, ground := Ground.data }, { on := 6, ground := Ground.gcOnly Departure.lateStores }], guard := none }) (v := _) [7, 8] [] rfl rfl (by kernel_rfl) (by kernel_rfl) (by kernel_rfl) (by kernel_rfl) (by kernel_rfl) (by kernel_rfl) (by kernel_rfl) (fun _ _ _ h => h) (Or.inl ⟨by rfl, Or.inl ?hy153⟩) ?rest153
              case hy153 => (intro w' kk ss; obtain ⟨u0, u1, u2⟩ := HC.out _ (hr0.trans kk); go_simp; first | done | with_reducible rfl)
              try simp only [Act.put, List.setIfInBounds_toArray, List.set_cons_zero, List.set_cons_succ]
              refine' Reg.wpG_take (i := 4) (oi := { dst := some 37, op := Op.indexAddr 44 (Operand.tmp 5) (Operand.const (Value.int IntKind.i64 2)), type := 0, pos := "law.go:69", after := #[{ on := 7, ground := Ground.gcOnly Departure.lateStores }], guard := none }) (v := _) [5, 8] [] rfl rfl (by kernel_rfl) (by kernel_rfl) (by kernel_rfl) (by kernel_rfl) (by kernel_rfl) (by kernel_rfl) (by kernel_rfl) (fun _ _ _ h => h) (Or.inl ⟨by rfl, Or.inl ?hy154⟩) ?rest154
              case hy154 => (intro w' kk ss; obtain ⟨u0, u1, u2⟩ := HC.out _ (hr0.trans kk); go_simp; first | done | with_reducible rfl)
              try simp only [Act.put, List.setIfInBounds_toArray, List.set_cons_zero, List.set_cons_succ]
              refine' Reg.wpG_take (i := 5) (oi := { dst := some 38, op := Op.load 2 (Operand.tmp 37), type := 2, pos := "law.go:69", after := #[{ on := 4, ground := Ground.data }, { on := 7, ground := Ground.gcOnly Departure.lateStores }], guard := none }) (v := _) [8] [] rfl rfl (by kernel_rfl) (by kernel_rfl) (by kernel_rfl) (by kernel_rfl) (by kernel_rfl) (by kernel_rfl) (by kernel_rfl) (fun _ _ _ h => h) (Or.inl ⟨by rfl, Or.inl ?hy155⟩) ?rest155
              case hy155 => (intro w' kk ss; obtain ⟨u0, u1, u2⟩ := HC.out _ (hr0.trans kk); go_simp; first | done | with_reducible rfl)
              try simp only [Act.put, List.setIfInBounds_toArray, List.set_cons_zero, List.set_cons_succ]
              refine' Reg.wpG_take (i := 6) (oi := { dst := some 7, op := Op.assign (Operand.tmp 34), type := 2, pos := "law.go:69", after := #[{ on := 1, ground := Ground.data }, { on := 0, ground := Ground.phase }, { on := 1, ground := Ground.phase }, { on := 2, ground := Ground.textOnly Departure.lateStores }, { on := 3, ground := Ground.textOnly Departure.lateStores }, { on := 4, ground := Ground.textOnly Departure.lateStores }, { on := 5, ground := Ground.textOnly Departure.lateStores }], guard := none }) (v := _) [7, 8] [] rfl rfl (by kernel_rfl) (by kernel_rfl) (by kernel_rfl) (by kernel_rfl) (by kernel_rfl) (by kernel_rfl) (by kernel_rfl) (fun _ _ _ h => h) (Or.inl ⟨by rfl, Or.inl ?hy156⟩) ?rest156
              case hy156 => (intro w' kk ss; obtain ⟨u0, u1, u2⟩ := HC.out _ (hr0.trans kk); go_simp; first | done | with_reducible rfl)
              try simp only [Act.put, List.setIfInBounds_toArray, List.set_cons_zero, List.set_cons_succ]
              refine' Reg.wpG_take (i := 7) (oi := { dst := some 8, op := Op.assign (Operand.tmp 36), type := 2, pos := "law.go:69", after := #[{ on := 3, ground := Ground.data }, { on := 6, ground := Ground.chain }, { on := 0, ground := Ground.phase }, { on := 1, ground := Ground.phase }, { on := 2, ground := Ground.phase }, { on := 3, ground := Ground.phase }, { on := 4, ground := Ground.textOnly Departure.lateStores }, { on := 5, ground := Ground.textOnly Departure.lateStores }, { on := 6, ground := Ground.phase }], guard := none }) (v := _) [8] [] rfl rfl (by kernel_rfl) (by kernel_rfl) (by kernel_rfl) (by kernel_rfl) (by kernel_rfl) (by kernel_rfl) (by kernel_rfl) (fun _ _ _ h => h) (Or.inl ⟨by rfl, Or.inl ?hy157⟩) ?rest157
              case hy157 => (intro w' kk ss; obtain ⟨u0, u1, u2⟩ := HC.out _ (hr0.trans kk); go_simp; first | done | with_reducible rfl)
              try simp only [Act.put, List.setIfInBounds_toArray, List.set_cons_zero, List.set_cons_succ]
              refine' Reg.wpG_take (i := 8) (oi := { dst := some 9, op := Op.assign (Operand.tmp 38), type := 2, pos := "law.go:69", after := #[{ on := 5, ground := Ground.data }, { on := 7, ground := Ground.chain }, { on := 0, ground := Ground.phase }, { on := 1, ground := Ground.phase }, { on := 2, ground := Ground.phase }, { on := 3, ground := Ground.phase }, { on := 4, ground := Ground.phase }, { on := 5, ground := Ground.phase }, { on := 6, ground := Ground.phase }, { on := 7, ground := Ground.phase }], guard := none }) (v := _) [] [] rfl rfl (by kernel_rfl) (by kernel_rfl) (by kernel_rfl) (by kernel_rfl) (by kernel_rfl) (by kernel_rfl) (by kernel_rfl) (fun _ _ _ h => h) (Or.inl ⟨by rfl, Or.inl ?hy158⟩) ?rest158
              case hy158 => (intro w' kk ss; obtain ⟨u0, u1, u2⟩ := HC.out _ (hr0.trans kk); go_simp; first | done | with_reducible rfl)
              try simp only [Act.put, List.setIfInBounds_toArray, List.set_cons_zero, List.set_cons_succ]
              refine Reg.wpG_done (by kernel_rfl) (fun wq ke se => ?_) _
              refine NoPanic.normal ?_
              have hr0 := hr0.trans ke
              clear ke
              have KQ := K3.trans hr0
              clear hr0
              go_wp2_with (first
                | (go_at_call 24; (with_reducible refine (CA.out _ KQ).mono ?_); rintro e w11 ⟨A11, m11, c11, rfl, -, hc, k11⟩; have K11 := KQ.trans k11)
                | (go_at_call 26; (with_reducible refine (UA.out _ K11).mono ?_); rintro e w12 ⟨A12, m12, c12, rfl, -, hu, k12⟩; have K12 := K11.trans k12)
                | (go_at_call 28; (with_reducible refine (XA.out _ K12).mono ?_); rintro e w13 ⟨A13, m13, c13, rfl, -, hm, k13⟩; have K13 := K12.trans k13)
                | (go_at_call 14; (with_reducible refine (RC.out _ _ (hc.since stR (k12.trans k13))).mono ?_); rintro e w14 ⟨rfl, k14⟩; have K14 := K13.trans k14)
                | (go_at_call 14; (with_reducible refine (RU.out _ _ (hu.since stR (k13.trans k14))).mono ?_); rintro e w15 ⟨rfl, k15⟩; have K15 := K14.trans k15)
                | (go_at_call 14; (with_reducible refine (RX.out _ _ (hm.since stR (k14.trans k15))).mono ?_); rintro e w16 ⟨rfl, k16⟩; have K16 := K15.trans k16)
                | (go_at_call 20; (with_reducible refine (HC1.out _ _ (hc.since stR ((((k12.trans k13).trans k14).trans k15).trans k16))).mono ?_); rintro e w17 ⟨rfl, k17⟩; have K17 := K16.trans k17)
                | (go_at_call 20; (with_reducible refine (HA.out _ K17).mono ?_); rintro e w18 ⟨rfl, k18⟩; have K18 := K17.trans k18)
                | (go_at_call 20; (with_reducible refine (HU.out _ _ (hu.since stR (((((k13.trans k14).trans k15).trans k16).trans k17).trans k18))).mono ?_); rintro e w19 ⟨rfl, k19⟩; have K19 := K18.trans k19)
                | (go_at_call 20; (with_reducible refine (HA.out _ K19).mono ?_); rintro e w20 ⟨rfl, k20⟩; have K20 := K19.trans k20)
                | (go_at_call 20; (with_reducible refine (HX.out _ _ (hm.since stR ((((((k14.trans k15).trans k16).trans k17).trans k18).trans k19).trans k20))).mono ?_); rintro e w21 ⟨rfl, k21⟩; have K21 := K20.trans k21)
                | (go_at_call 20; (with_reducible refine (HA.out _ K21).mono ?_); rintro e w22 ⟨rfl, k22⟩; have K22 := K21.trans k22)
                | (go_at_call 20; (with_reducible refine (HH.out _ K22).mono ?_); rintro e w23 ⟨rfl, k23⟩; have K23 := K22.trans k23))
              go_ret
              exact ⟨by first | (simp; done) | (simp; omega), K23⟩

set_option maxRecDepth 100000 in
theorem lifted (os : Os) (started : os.Started) (H : Type) (enc : TypeId × Value → H) :
    ReturnsInHanded {} Try.checked os 6 .any (Rows.setValuesSpec.pre6 enc Try.prog Try.f6 Rows.setValuesRow.domain false) (Rows.setValuesSpec.post enc Try.prog Try.f6 false true false false) := by
  refine returnsInHanded_of_change (C := Try.checked) own started (by kernel_rfl) Try.func6
    (ChangeSpec.witness6 (enc := enc) (C := Try.checked) false ⟨#[], #[.slice none 0 0, .slice none 0 0, .agg #[.int .i64 0, .int .i64 0, .int .i64 0]], []⟩ 8 (by kernel_rfl) (by kernel_rfl) (by kernel_rfl) (by kernel_rfl)) ?_
  intro W base args ds gs before hval0 hW hcnd _
  have hval : ∀ (j : Nat) t v, Try.f6.params[j]? = some t → args[j]? = some v → Value.okWide Try.prog W .any base t v := hval0
  have hW' := hW
  obtain ⟨p, q, hA0, hV, rfl, hfz, hnd⟩ := hW
  have hA : DataW.TrodAll enc Try.prog W 0 (fun _ => true) true Try.f6.params.toList args.toList ds p := hA0
  rw [Try.params6] at hA hval
  obtain ⟨v0, vs0, d0, ds0, p0, q0, hargs, rfl, rfl, h0, r0⟩ := trodAll_cons hA
  obtain ⟨v1, vs1, d1, ds1, p1, q1, rfl, rfl, rfl, h1, r1⟩ := trodAll_cons r0
  obtain ⟨v2, vs2, d2, ds2, p2, q2, rfl, rfl, rfl, h2, r2⟩ := trodAll_cons r1
  obtain ⟨rfl, rfl, rfl⟩ := trodAll_nil r2
  obtain rfl : args = #[v0, v1, v2] := by cases args; simp_all
  obtain ⟨rfl, rfl⟩ := trodVars_none hV
  obtain ⟨a0, len0, cap0, rfl⟩ := okWide_slice Try.underlying22 (hval 0 22 v0 rfl rfl)
  have k0 := h0
  have lt0 : ∀ x ∈ p0, x.block < W.heap.size := by obtain ⟨m, hm⟩ := k0; exact DataW.trod_lt m _ _ _ hm
  obtain ⟨z0, w0⟩ : ∃ zs, Go.Proofs.Ytdlbfpodgjkimaa.Zs.RangesIn W a0 len0 cap0 zs := by
    obtain ⟨fuel, hf⟩ := h0
    exact Go.Proofs.Ytdlbfpodgjkimaa.Zs.ranges_in Try.underlying22 Try.underlying32 (by kernel_rfl) rfl rfl (by kernel_rfl) (by kernel_rfl) Try.underlying2 Try.underlying2 hf
  obtain ⟨a1, len1, cap1, rfl⟩ := okWide_slice Try.underlying22 (hval 1 22 v1 rfl rfl)
  have k1 := h1
  have lt1 : ∀ x ∈ p1, x.block < W.heap.size := by obtain ⟨m, hm⟩ := k1; exact DataW.trod_lt m _ _ _ hm
  obtain ⟨z1, w1⟩ : ∃ zs, Go.Proofs.Ytdlbfpodgjkimaa.Zs.RangesIn W a1 len1 cap1 zs := by
    obtain ⟨fuel, hf⟩ := h1
    exact Go.Proofs.Ytdlbfpodgjkimaa.Zs.ranges_in Try.underlying22 Try.underlying32 (by kernel_rfl) rfl rfl (by kernel_rfl) (by kernel_rfl) Try.underlying2 Try.underlying2 hf
  obtain ⟨x2, y2, z2, rfl, w2⟩ := Go.Proofs.Ytdlbfpodgjkimaa.Zs.array3_in Try.underlying44 (by kernel_rfl) (by kernel_rfl) Try.underlying2 (hval 2 44 v2 rfl rfl) h2
  have k2 := h2
  have lt2 : ∀ x ∈ p2, x.block < W.heap.size := by obtain ⟨m, hm⟩ := k2; exact DataW.trod_lt m _ _ _ hm
  clear hA0 hval0
  refine (walk a0 len0 cap0 z0 a1 len1 cap1 z1 x2 y2 z2 W w0 w1 w2).mono fun e W' ⟨he, bel⟩ => ?_
  subst he
  exact ⟨_, rfl, _, _, _, [], _, [], hW', trodAll_mk1 (shut_bool Try.underlying4 _), (trodAll_cons_mk (Below.trod laidOut (by kernel_rfl) (of_decide_eq_true (by kernel_rfl)) k0 bel lt0) (trodAll_cons_mk (Below.trod laidOut (by kernel_rfl) (of_decide_eq_true (by kernel_rfl)) k1 bel lt1) (trodAll_cons_mk (Below.trod laidOut (by kernel_rfl) (of_decide_eq_true (by kernel_rfl)) k2 bel lt2) trodAll_mk0))), rfl, bel.frame _, fun h => by cases h⟩

theorem over : Rows.setValuesRow.holds Try.pinned (OpenSpec.ofChange Rows.setValuesSpec) :=
  OpenClaim.holds_of_wide 6 Try.f6 rfl rfl rfl rfl rfl rfl rfl ⟨rfl, rfl, rfl, rfl, rfl⟩ rfl rfl rfl rfl rfl (by kernel_rfl) Try.func6 (by kernel_rfl)
    (of_decide_eq_true (by kernel_rfl)) (by unfold Func.isWrapper; first | (rw [if_pos (by decide +kernel)]; kernel_rfl) | (rw [if_neg (by decide +kernel)]; exact ⟨rfl, rfl⟩))
    (fun os started H enc _ => lifted os started H enc)

/-- THE STATEMENT -/
theorem proved : Rows.SetValuesSaid := over
#print axioms proved
end Go.Proofs.Ytdlbfpodgjkimaa.setValues
