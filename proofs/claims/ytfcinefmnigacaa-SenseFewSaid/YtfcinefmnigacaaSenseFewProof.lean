/-
  For all constraints, values and places: the law SenseFew returns true (a value of a variable that a constraint does not have changes nothing in it). No condition.
-/
import Derived.Test.YtfcinefmnigacaaRows
import Derived.WalkKit
import Derived.ProofKit
import Derived.OpenShut
import Derived.ShutString
import Derived.ChangeOld
import Derived.Below
import Derived.Test.YtfcinefmnigacaaUz
namespace Go.Proofs.Ytfcinefmnigacaa.senseFew
open Go.ChangeShapes Go.WideShapes Go.ChangeAt Go.RowKit
open Go.ChangeMaps (open_string shut_string)
open Go.Proofs.Ytfcinefmnigacaa.Dig Go.Proofs.Ytfcinefmnigacaa.Zs Go.Proofs.Ytfcinefmnigacaa.Tr Go.Proofs.Ytfcinefmnigacaa.Sn
open Go.Proofs.Ytfcinefmnigacaa.Ti (Sl QR stR)
set_option linter.unusedVariables false

theorem own : ownKnob Try.prog.godebug = none := by kernel_rfl
theorem laidOut : laidOutB Try.prog = true := by kernel_rfl

/-- WHAT THE WALK IS TOLD OF A SLICE OF INTEGERS THAT CAME IN: it is nil; or it leads to a row of 'cap' cells, the numbers 'zs' (the first 'len' are its elements, the rest its spare room), each fitting its kind. -/
def IsRow (k : IntKind) (w : World) (a : Option Addr) (len cap : Nat) (zs : List Int) : Prop :=
  (a = none ∧ len = 0 ∧ cap = 0 ∧ zs = []) ∨
  ∃ x, a = some x ∧ len ≤ cap ∧ cap ≤ maxLen ∧ zs.length = cap ∧ (∀ i, i < zs.length → w.cell? (x.add i) = some (.int k (zs.getD i 0))) ∧ ∀ n ∈ zs, (Lit.int k n).wf = true

set_option maxRecDepth 100000 in
set_option maxHeartbeats 3000000 in
theorem walk (k0k : Int) (X0 : Option Addr) (n0 xc0 : Nat) (Y0 : Option Addr) (m0 yc0 : Nat) (e0 : Int) (z0 : Go.Proofs.Ytfcinefmnigacaa.Sn.Cn) (a1 : Option Addr) (len1 cap1 : Nat) (z1 : List Int) (x2 y2 : Int) (w : World) (w0 : Go.Proofs.Ytfcinefmnigacaa.Sn.ConIn w k0k X0 n0 xc0 Y0 m0 yc0 e0 z0) (w1 : Go.Proofs.Ytfcinefmnigacaa.Sn.IntsIn w a1 len1 cap1 z1) (w2 : (Lit.int .i64 x2).wf = true ∧ (Lit.int .i64 y2).wf = true) :
    Calls Try.prog 8 #[.agg #[.int .i64 k0k, .slice X0 n0 xc0, .slice Y0 m0 yc0, .int .i64 e0], .slice a1 len1 cap1, .agg #[.int .i64 x2, .int .i64 y2]] w fun e w' => e = .returned (.bool true) ∧ Since w w' := by
  obtain ⟨hC, hBC, hcx, hca⟩ := w0
  obtain ⟨hl1, hA, hBA, hlA⟩ := w1
  subst hl1
  obtain ⟨wf1, wf2⟩ := w2
  have AL := Lib.hid alive_any
  obtain ⟨-, -, hX, hY, hn, hm⟩ := con_open hC
  have HN := Lib.hid hn
  have HM := Lib.hid hm
  clear hn hm
  have FI := Lib.hid (fun W (k : Since w W) => fits_any _ _ z0 z1 W (hC.since k) (hA.since stI k) (mlen hcx) (mlen hca) (mlen hlA))
  obtain ⟨f, hf⟩ : ∃ f, fitsL z0 z1 = f := ⟨_, rfl⟩
  rw [hf] at FI
  have S0 := Lib.hid (((Since.refl w).alloc (.cells #[.int .i64 k0k, .slice X0 n0 xc0, .slice Y0 m0 yc0, .int .i64 e0] 25)).alloc (.cells #[.int .i64 x2, .int .i64 y2] 41))
  have B0 := Lib.hid (show Bx ((w.alloc (.cells #[.int .i64 k0k, .slice X0 n0 xc0, .slice Y0 m0 yc0, .int .i64 e0] 25)).alloc (.cells #[.int .i64 x2, .int .i64 y2] 41)) w.heap.size #[.int .i64 k0k, .slice X0 n0 xc0, .slice Y0 m0 yc0, .int .i64 e0] 25 from (Bx.fresh _ _ _).since (since_alloc _ _))
  have B1 := Lib.hid (show Bx ((w.alloc (.cells #[.int .i64 k0k, .slice X0 n0 xc0, .slice Y0 m0 yc0, .int .i64 e0] 25)).alloc (.cells #[.int .i64 x2, .int .i64 y2] 41)) (w.heap.size + 1) #[.int .i64 x2, .int .i64 y2] 41 from Bx.new (Since.refl _) (by simp))
  cases f with
  | false =>
    clear hf hC hA hX hY
    go_enter Try.func8, Try.ntmps8
    go_wp2_with (go_at_call 10; (with_reducible refine (AL.out _).mono ?_); rintro e w1 ⟨rfl, k1⟩; have K1 := Lib.hid k1; have S1 := Lib.hid (S0.out.trans k1); obtain ⟨b0, b1, b2, b3⟩ := bx4 (B0.out.since k1); obtain ⟨c0, c1⟩ := (B1.out.since k1).two; clear k1)
    have hr0 : Since w1 w1.drew := Since.drew (Since.refl w1)
    refine wp_region_noPanic ?_
    refine Reg.wp_region_G (S := fun _ => True) (fun j => [].contains j) (by kernel_rfl) trivial ?_
    refine' Reg.wpG_take (i := 0) (oi := { dst := some 14, op := Op.indexAddr 41 (Operand.tmp 5) (Operand.const (Value.int IntKind.i64 0)), type := 0, pos := "law.go:149", after := #[], guard := none }) (v := _) [1, 4, 5] [] rfl rfl (by kernel_rfl) (by kernel_rfl) (by kernel_rfl) (by kernel_rfl) (by kernel_rfl) (by kernel_rfl) (by kernel_rfl) (fun _ _ _ h => h) (Or.inl ⟨by rfl, Or.inl ?hy9⟩) ?rest9
    case hy9 => (intro w' kk ss; obtain ⟨q0, q1⟩ := (B1.out.since (K1.out.trans (hr0.trans kk))).two; go_simp; first | done | with_reducible rfl)
    try simp only [Act.put, List.setIfInBounds_toArray, List.set_cons_zero, List.set_cons_succ]
    refine' Reg.wpG_take (i := 1) (oi := { dst := some 15, op := Op.load 2 (Operand.tmp 14), type := 2, pos := "law.go:149", after := #[{ on := 0, ground := Ground.data }], guard := none }) (v := _) [4, 5] [] rfl rfl (by kernel_rfl) (by kernel_rfl) (by kernel_rfl) (by kernel_rfl) (by kernel_rfl) (by kernel_rfl) (by kernel_rfl) (fun _ _ _ h => h) (Or.inl ⟨by rfl, Or.inl ?hy10⟩) ?rest10
    case hy10 => (intro w' kk ss; obtain ⟨q0, q1⟩ := (B1.out.since (K1.out.trans (hr0.trans kk))).two; go_simp; first | done | with_reducible rfl)
    try simp only [Act.put, List.setIfInBounds_toArray, List.set_cons_zero, List.set_cons_succ]
    refine' Reg.wpG_take (i := 2) (oi := { dst := some 16, op := Op.indexAddr 41 (Operand.tmp 5) (Operand.const (Value.int IntKind.i64 1)), type := 0, pos := "law.go:149", after := #[{ on := 4, ground := Ground.gcOnly Departure.lateStores }], guard := none }) (v := _) [3, 5] [] rfl rfl (by kernel_rfl) (by kernel_rfl) (by kernel_rfl) (by kernel_rfl) (by kernel_rfl) (by kernel_rfl) (by kernel_rfl) (fun _ _ _ h => h) (Or.inl ⟨by rfl, Or.inl ?hy11⟩) ?rest11
    case hy11 => (intro w' kk ss; obtain ⟨q0, q1⟩ := (B1.out.since (K1.out.trans (hr0.trans kk))).two; go_simp; first | done | with_reducible rfl)
    try simp only [Act.put, List.setIfInBounds_toArray, List.set_cons_zero, List.set_cons_succ]
    refine' Reg.wpG_take (i := 3) (oi := { dst := some 17, op := Op.load 2 (Operand.tmp 16), type := 2, pos := "law.go:149", after := #[{ on := 2, ground := Ground.data }, { on := 4, ground := Ground.gcOnly Departure.lateStores }], guard := none }) (v := _) [5] [] rfl rfl (by kernel_rfl) (by kernel_rfl) (by kernel_rfl) (by kernel_rfl) (by kernel_rfl) (by kernel_rfl) (by kernel_rfl) (fun _ _ _ h => h) (Or.inl ⟨by rfl, Or.inl ?hy12⟩) ?rest12
    case hy12 => (intro w' kk ss; obtain ⟨q0, q1⟩ := (B1.out.since (K1.out.trans (hr0.trans kk))).two; go_simp; first | done | with_reducible rfl)
    try simp only [Act.put, List.setIfInBounds_toArray, List.set_cons_zero, List.set_cons_succ]
    refine' Reg.wpG_take (i := 4) (oi := { dst := some 7, op := Op.assign (Operand.tmp 15), type := 3, pos := "law.go:149", after := #[{ on := 1, ground := Ground.data }, { on := 0, ground := Ground.phase }, { on := 1, ground := Ground.phase }, { on := 2, ground := Ground.textOnly Departure.lateStores }, { on := 3, ground := Ground.textOnly Departure.lateStores }], guard := none }) (v := _) [5] [] rfl rfl (by kernel_rfl) (by kernel_rfl) (by kernel_rfl) (by kernel_rfl) (by kernel_rfl) (by kernel_rfl) (by kernel_rfl) (fun _ _ _ h => h) (Or.inl ⟨by rfl, Or.inl ?hy13⟩) ?rest13
    case hy13 => (intro w' kk ss; obtain ⟨q0, q1⟩ := (B1.out.since (K1.out.trans (hr0.trans kk))).two; go_simp; first | done | with_reducible rfl)
    try simp only [Act.put, List.setIfInBounds_toArray, List.set_cons_zero, List.set_cons_succ]
    refine' Reg.wpG_take (i := 5) (oi := { dst := some 8, op := Op.assign (Operand.tmp 17), type := 2, pos := "law.go:149", after := #[{ on := 3, ground := Ground.data }, { on := 4, ground := Ground.chain }, { on := 0, ground := Ground.phase }, { on := 1, ground := Ground.phase }, { on := 2, ground := Ground.phase }, { on := 3, ground := Ground.phase }, { on := 4, ground := Ground.phase }], guard := none }) (v := _) [] [] rfl rfl (by kernel_rfl) (by kernel_rfl) (by kernel_rfl) (by kernel_rfl) (by kernel_rfl) (by kernel_rfl) (by kernel_rfl) (fun _ _ _ h => h) (Or.inl ⟨by rfl, Or.inl ?hy14⟩) ?rest14
    case hy14 => (intro w' kk ss; obtain ⟨q0, q1⟩ := (B1.out.since (K1.out.trans (hr0.trans kk))).two; go_simp; first | done | with_reducible rfl)
    try simp only [Act.put, List.setIfInBounds_toArray, List.set_cons_zero, List.set_cons_succ]
    refine Reg.wpG_done (by kernel_rfl) (fun we ke se => ?_) _
    refine NoPanic.normal ?_
    have hr0 := hr0.trans ke
    clear ke
    obtain ⟨b0, b1, b2, b3⟩ := bx4 (B0.out.since (K1.out.trans hr0))
    have T1 := Lib.hid (S1.out.trans hr0)
    have U1 := Lib.hid (K1.out.trans hr0)
    clear hr0
    go_wp2_with (go_at_call 11; (with_reducible refine (FI.out _ T1.out).mono ?_); rintro e w2 ⟨rfl, k2⟩; have T2 := Lib.hid (T1.out.trans k2); have U2 := Lib.hid (U1.out.trans k2); clear k2; obtain ⟨b0, b1, b2, b3⟩ := bx4 (B0.out.since U2.out))
    go_ret
    exact ⟨rfl, T2.out⟩
  | true =>
    obtain ⟨hf1, hf2, hf3⟩ := fitsL_parts hf
    by_cases ca : x2 < 0
    case pos =>
      clear hf hC hA hX hY
      go_enter Try.func8, Try.ntmps8
      go_wp2_with (go_at_call 10; (with_reducible refine (AL.out _).mono ?_); rintro e w1 ⟨rfl, k1⟩; have K1 := Lib.hid k1; have S1 := Lib.hid (S0.out.trans k1); obtain ⟨b0, b1, b2, b3⟩ := bx4 (B0.out.since k1); obtain ⟨c0, c1⟩ := (B1.out.since k1).two; clear k1)
      have hr0 : Since w1 w1.drew := Since.drew (Since.refl w1)
      refine wp_region_noPanic ?_
      refine Reg.wp_region_G (S := fun _ => True) (fun j => [].contains j) (by kernel_rfl) trivial ?_
      refine' Reg.wpG_take (i := 0) (oi := { dst := some 14, op := Op.indexAddr 41 (Operand.tmp 5) (Operand.const (Value.int IntKind.i64 0)), type := 0, pos := "law.go:149", after := #[], guard := none }) (v := _) [1, 4, 5] [] rfl rfl (by kernel_rfl) (by kernel_rfl) (by kernel_rfl) (by kernel_rfl) (by kernel_rfl) (by kernel_rfl) (by kernel_rfl) (fun _ _ _ h => h) (Or.inl ⟨by rfl, Or.inl ?hy16⟩) ?rest16
      case hy16 => (intro w' kk ss; obtain ⟨q0, q1⟩ := (B1.out.since (K1.out.trans (hr0.trans kk))).two; go_simp; first | done | with_reducible rfl)
      try simp only [Act.put, List.setIfInBounds_toArray, List.set_cons_zero, List.set_cons_succ]
      refine' Reg.wpG_take (i := 1) (oi := { dst := some 15, op := Op.load 2 (Operand.tmp 14), type := 2, pos := "law.go:149", after := #[{ on := 0, ground := Ground.data }], guard := none }) (v := _) [4, 5] [] rfl rfl (by kernel_rfl) (by kernel_rfl) (by kernel_rfl) (by kernel_rfl) (by kernel_rfl) (by kernel_rfl) (by kernel_rfl) (fun _ _ _ h => h) (Or.inl ⟨by rfl, Or.inl ?hy17⟩) ?rest17
      case hy17 => (intro w' kk ss; obtain ⟨q0, q1⟩ := (B1.out.since (K1.out.trans (hr0.trans kk))).two; go_simp; first | done | with_reducible rfl)
      try simp only [Act.put, List.setIfInBounds_toArray, List.set_cons_zero, List.set_cons_succ]
      refine' Reg.wpG_take (i := 2) (oi := { dst := some 16, op := Op.indexAddr 41 (Operand.tmp 5) (Operand.const (Value.int IntKind.i64 1)), type := 0, pos := "law.go:149", after := #[{ on := 4, ground := Ground.gcOnly Departure.lateStores }], guard := none }) (v := _) [3, 5] [] rfl rfl (by kernel_rfl) (by kernel_rfl) (by kernel_rfl) (by kernel_rfl) (by kernel_rfl) (by kernel_rfl) (by kernel_rfl) (fun _ _ _ h => h) (Or.inl ⟨by rfl, Or.inl ?hy18⟩) ?rest18
      case hy18 => (intro w' kk ss; obtain ⟨q0, q1⟩ := (B1.out.since (K1.out.trans (hr0.trans kk))).two; go_simp; first | done | with_reducible rfl)
      try simp only [Act.put, List.setIfInBounds_toArray, List.set_cons_zero, List.set_cons_succ]
      refine' Reg.wpG_take (i := 3) (oi := { dst := some 17, op := Op.load 2 (Operand.tmp 16), type := 2, pos := "law.go:149", after := #[{ on := 2, ground := Ground.data }, { on := 4, ground := Ground.gcOnly Departure.lateStores }], guard := none }) (v := _) [5] [] rfl rfl (by kernel_rfl) (by kernel_rfl) (by kernel_rfl) (by kernel_rfl) (by kernel_rfl) (by kernel_rfl) (by kernel_rfl) (fun _ _ _ h => h) (Or.inl ⟨by rfl, Or.inl ?hy19⟩) ?rest19
      case hy19 => (intro w' kk ss; obtain ⟨q0, q1⟩ := (B1.out.since (K1.out.trans (hr0.trans kk))).two; go_simp; first | done | with_reducible rfl)
      try simp only [Act.put, List.setIfInBounds_toArray, List.set_cons_zero, List.set_cons_succ]
      refine' Reg.wpG_take (i := 4) (oi := { dst := some 7, op := Op.assign (Operand.tmp 15), type := 3, pos := "law.go:149", after := #[{ on := 1, ground := Ground.data }, { on := 0, ground := Ground.phase }, { on := 1, ground := Ground.phase }, { on := 2, ground := Ground.textOnly Departure.lateStores }, { on := 3, ground := Ground.textOnly Departure.lateStores }], guard := none }) (v := _) [5] [] rfl rfl (by kernel_rfl) (by kernel_rfl) (by kernel_rfl) (by kernel_rfl) (by kernel_rfl) (by kernel_rfl) (by kernel_rfl) (fun _ _ _ h => h) (Or.inl ⟨by rfl, Or.inl ?hy20⟩) ?rest20
      case hy20 => (intro w' kk ss; obtain ⟨q0, q1⟩ := (B1.out.since (K1.out.trans (hr0.trans kk))).two; go_simp; first | done | with_reducible rfl)
      try simp only [Act.put, List.setIfInBounds_toArray, List.set_cons_zero, List.set_cons_succ]
      refine' Reg.wpG_take (i := 5) (oi := { dst := some 8, op := Op.assign (Operand.tmp 17), type := 2, pos := "law.go:149", after := #[{ on := 3, ground := Ground.data }, { on := 4, ground := Ground.chain }, { on := 0, ground := Ground.phase }, { on := 1, ground := Ground.phase }, { on := 2, ground := Ground.phase }, { on := 3, ground := Ground.phase }, { on := 4, ground := Ground.phase }], guard := none }) (v := _) [] [] rfl rfl (by kernel_rfl) (by kernel_rfl) (by kernel_rfl) (by kernel_rfl) (by kernel_rfl) (by kernel_rfl) (by kernel_rfl) (fun _ _ _ h => h) (Or.inl ⟨by rfl, Or.inl ?hy21⟩) ?rest21
      case hy21 => (intro w' kk ss; obtain ⟨q0, q1⟩ := (B1.out.since (K1.out.trans (hr0.trans kk))).two; go_simp; first | done | with_reducible rfl)
      try simp only [Act.put, List.setIfInBounds_toArray, List.set_cons_zero, List.set_cons_succ]
      refine Reg.wpG_done (by kernel_rfl) (fun we ke se => ?_) _
      refine NoPanic.normal ?_
      have hr0 := hr0.trans ke
      clear ke
      obtain ⟨b0, b1, b2, b3⟩ := bx4 (B0.out.since (K1.out.trans hr0))
      have T1 := Lib.hid (S1.out.trans hr0)
      have U1 := Lib.hid (K1.out.trans hr0)
      clear hr0
      go_wp2_with (go_at_call 11; (with_reducible refine (FI.out _ T1.out).mono ?_); rintro e w2 ⟨rfl, k2⟩; have T2 := Lib.hid (T1.out.trans k2); have U2 := Lib.hid (U1.out.trans k2); clear k2; obtain ⟨b0, b1, b2, b3⟩ := bx4 (B0.out.since U2.out))
      go_ret
      exact ⟨rfl, T2.out⟩
    by_cases cb : x2 ≥ (z1.length : Int)
    case pos =>
      clear hf hC hA hX hY
      go_enter Try.func8, Try.ntmps8
      go_wp2_with (go_at_call 10; (with_reducible refine (AL.out _).mono ?_); rintro e w1 ⟨rfl, k1⟩; have K1 := Lib.hid k1; have S1 := Lib.hid (S0.out.trans k1); obtain ⟨b0, b1, b2, b3⟩ := bx4 (B0.out.since k1); obtain ⟨c0, c1⟩ := (B1.out.since k1).two; clear k1)
      have hr0 : Since w1 w1.drew := Since.drew (Since.refl w1)
      refine wp_region_noPanic ?_
      refine Reg.wp_region_G (S := fun _ => True) (fun j => [].contains j) (by kernel_rfl) trivial ?_
      refine' Reg.wpG_take (i := 0) (oi := { dst := some 14, op := Op.indexAddr 41 (Operand.tmp 5) (Operand.const (Value.int IntKind.i64 0)), type := 0, pos := "law.go:149", after := #[], guard := none }) (v := _) [1, 4, 5] [] rfl rfl (by kernel_rfl) (by kernel_rfl) (by kernel_rfl) (by kernel_rfl) (by kernel_rfl) (by kernel_rfl) (by kernel_rfl) (fun _ _ _ h => h) (Or.inl ⟨by rfl, Or.inl ?hy23⟩) ?rest23
      case hy23 => (intro w' kk ss; obtain ⟨q0, q1⟩ := (B1.out.since (K1.out.trans (hr0.trans kk))).two; go_simp; first | done | with_reducible rfl)
      try simp only [Act.put, List.setIfInBounds_toArray, List.set_cons_zero, List.set_cons_succ]
      refine' Reg.wpG_take (i := 1) (oi := { dst := some 15, op := Op.load 2 (Operand.tmp 14), type := 2, pos := "law.go:149", after := #[{ on := 0, ground := Ground.data }], guard := none }) (v := _) [4, 5] [] rfl rfl (by kernel_rfl) (by kernel_rfl) (by kernel_rfl) (by kernel_rfl) (by kernel_rfl) (by kernel_rfl) (by kernel_rfl) (fun _ _ _ h => h) (Or.inl ⟨by rfl, Or.inl ?hy24⟩) ?rest24
      case hy24 => (intro w' kk ss; obtain ⟨q0, q1⟩ := (B1.out.since (K1.out.trans (hr0.trans kk))).two; go_simp; first | done | with_reducible rfl)
      try simp only [Act.put, List.setIfInBounds_toArray, List.set_cons_zero, List.set_cons_succ]
      refine' Reg.wpG_take (i := 2) (oi := { dst := some 16, op := Op.indexAddr 41 (Operand.tmp 5) (Operand.const (Value.int IntKind.i64 1)), type := 0, pos := "law.go:149", after := #[{ on := 4, ground := Ground.gcOnly Departure.lateStores }], guard := none }) (v := _) [3, 5] [] rfl rfl (by kernel_rfl) (by kernel_rfl) (by kernel_rfl) (by kernel_rfl) (by kernel_rfl) (by kernel_rfl) (by kernel_rfl) (fun _ _ _ h => h) (Or.inl ⟨by rfl, Or.inl ?hy25⟩) ?rest25
      case hy25 => (intro w' kk ss; obtain ⟨q0, q1⟩ := (B1.out.since (K1.out.trans (hr0.trans kk))).two; go_simp; first | done | with_reducible rfl)
      try simp only [Act.put, List.setIfInBounds_toArray, List.set_cons_zero, List.set_cons_succ]
      refine' Reg.wpG_take (i := 3) (oi := { dst := some 17, op := Op.load 2 (Operand.tmp 16), type := 2, pos := "law.go:149", after := #[{ on := 2, ground := Ground.data }, { on := 4, ground := Ground.gcOnly Departure.lateStores }], guard := none }) (v := _) [5] [] rfl rfl (by kernel_rfl) (by kernel_rfl) (by kernel_rfl) (by kernel_rfl) (by kernel_rfl) (by kernel_rfl) (by kernel_rfl) (fun _ _ _ h => h) (Or.inl ⟨by rfl, Or.inl ?hy26⟩) ?rest26
      case hy26 => (intro w' kk ss; obtain ⟨q0, q1⟩ := (B1.out.since (K1.out.trans (hr0.trans kk))).two; go_simp; first | done | with_reducible rfl)
      try simp only [Act.put, List.setIfInBounds_toArray, List.set_cons_zero, List.set_cons_succ]
      refine' Reg.wpG_take (i := 4) (oi := { dst := some 7, op := Op.assign (Operand.tmp 15), type := 3, pos := "law.go:149", after := #[{ on := 1, ground := Ground.data }, { on := 0, ground := Ground.phase }, { on := 1, ground := Ground.phase }, { on := 2, ground := Ground.textOnly Departure.lateStores }, { on := 3, ground := Ground.textOnly Departure.lateStores }], guard := none }) (v := _) [5] [] rfl rfl (by kernel_rfl) (by kernel_rfl) (by kernel_rfl) (by kernel_rfl) (by kernel_rfl) (by kernel_rfl) (by kernel_rfl) (fun _ _ _ h => h) (Or.inl ⟨by rfl, Or.inl ?hy27⟩) ?rest27
      case hy27 => (intro w' kk ss; obtain ⟨q0, q1⟩ := (B1.out.since (K1.out.trans (hr0.trans kk))).two; go_simp; first | done | with_reducible rfl)
      try simp only [Act.put, List.setIfInBounds_toArray, List.set_cons_zero, List.set_cons_succ]
      refine' Reg.wpG_take (i := 5) (oi := { dst := some 8, op := Op.assign (Operand.tmp 17), type := 2, pos := "law.go:149", after := #[{ on := 3, ground := Ground.data }, { on := 4, ground := Ground.chain }, { on := 0, ground := Ground.phase }, { on := 1, ground := Ground.phase }, { on := 2, ground := Ground.phase }, { on := 3, ground := Ground.phase }, { on := 4, ground := Ground.phase }], guard := none }) (v := _) [] [] rfl rfl (by kernel_rfl) (by kernel_rfl) (by kernel_rfl) (by kernel_rfl) (by kernel_rfl) (by kernel_rfl) (by kernel_rfl) (fun _ _ _ h => h) (Or.inl ⟨by rfl, Or.inl ?hy28⟩) ?rest28
      case hy28 => (intro w' kk ss; obtain ⟨q0, q1⟩ := (B1.out.since (K1.out.trans (hr0.trans kk))).two; go_simp; first | done | with_reducible rfl)
      try simp only [Act.put, List.setIfInBounds_toArray, List.set_cons_zero, List.set_cons_succ]
      refine Reg.wpG_done (by kernel_rfl) (fun we ke se => ?_) _
      refine NoPanic.normal ?_
      have hr0 := hr0.trans ke
      clear ke
      obtain ⟨b0, b1, b2, b3⟩ := bx4 (B0.out.since (K1.out.trans hr0))
      have T1 := Lib.hid (S1.out.trans hr0)
      have U1 := Lib.hid (K1.out.trans hr0)
      clear hr0
      go_wp2_with (go_at_call 11; (with_reducible refine (FI.out _ T1.out).mono ?_); rintro e w2 ⟨rfl, k2⟩; have T2 := Lib.hid (T1.out.trans k2); have U2 := Lib.hid (U1.out.trans k2); clear k2; obtain ⟨b0, b1, b2, b3⟩ := bx4 (B0.out.since U2.out))
      go_ret
      exact ⟨rfl, T2.out⟩
    obtain ⟨q, rfl⟩ : ∃ q : Nat, x2 = (q : Int) := ⟨x2.toNat, by omega⟩
    have hq : q < z1.length := by omega
    have HS := Lib.hid (few_same (c := z0) hq y2)
    obtain ⟨R, hR⟩ : ∃ R, holds z0 z1 = R := ⟨_, rfl⟩
    have HA := Lib.hid (fun W k => holds_at hC hA (by omega) (by omega) hR W k)
    have HCA := Lib.hid (show z0.a.length ≤ 1100000 by omega)
    have HR := Lib.hid hR
    have HX := Lib.hid hX
    have HAS := Lib.hid hA
    have HC := Lib.hid hC
    obtain ⟨nl, hnl⟩ : ∃ n, n = z1.length := ⟨_, rfl⟩
    have HNL := Lib.hid hnl
    rw [← hnl] at HA HAS hq hf3 FI ⊢
    have hn2 : n0 ≤ 200 := by have := HN.out; omega
    clear hf hC hA hX hY hR hnl hlA hcx hca hBA hBC ca cb hf1 hf2 wf1 wf2
    go_enter Try.func8, Try.ntmps8
    go_wp2_with (go_at_call 10; (with_reducible refine (AL.out _).mono ?_); rintro e w1 ⟨rfl, k1⟩; have K1 := Lib.hid k1; have S1 := Lib.hid (S0.out.trans k1); obtain ⟨b0, b1, b2, b3⟩ := bx4 (B0.out.since k1); obtain ⟨c0, c1⟩ := (B1.out.since k1).two; clear k1)
    have hr0 : Since w1 w1.drew := Since.drew (Since.refl w1)
    refine wp_region_noPanic ?_
    refine Reg.wp_region_G (S := fun _ => True) (fun j => [].contains j) (by kernel_rfl) trivial ?_
    refine' Reg.wpG_take (i := 0) (oi := { dst := some 14, op := Op.indexAddr 41 (Operand.tmp 5) (Operand.const (Value.int IntKind.i64 0)), type := 0, pos := "law.go:149", after := #[], guard := none }) (v := _) [1, 4, 5] [] rfl rfl (by kernel_rfl) (by kernel_rfl) (by kernel_rfl) (by kernel_rfl) (by kernel_rfl) (by kernel_rfl) (by kernel_rfl) (fun _ _ _ h => h) (Or.inl ⟨by rfl, Or.inl ?hy30⟩) ?rest30
    case hy30 => (intro w' kk ss; obtain ⟨q0, q1⟩ := (B1.out.since (K1.out.trans (hr0.trans kk))).two; go_simp; first | done | with_reducible rfl)
    try simp only [Act.put, List.setIfInBounds_toArray, List.set_cons_zero, List.set_cons_succ]
    refine' Reg.wpG_take (i := 1) (oi := { dst := some 15, op := Op.load 2 (Operand.tmp 14), type := 2, pos := "law.go:149", after := #[{ on := 0, ground := Ground.data }], guard := none }) (v := _) [4, 5] [] rfl rfl (by kernel_rfl) (by kernel_rfl) (by kernel_rfl) (by kernel_rfl) (by kernel_rfl) (by kernel_rfl) (by kernel_rfl) (fun _ _ _ h => h) (Or.inl ⟨by rfl, Or.inl ?hy31⟩) ?rest31
    case hy31 => (intro w' kk ss; obtain ⟨q0, q1⟩ := (B1.out.since (K1.out.trans (hr0.trans kk))).two; go_simp; first | done | with_reducible rfl)
    try simp only [Act.put, List.setIfInBounds_toArray, List.set_cons_zero, List.set_cons_succ]
    refine' Reg.wpG_take (i := 2) (oi := { dst := some 16, op := Op.indexAddr 41 (Operand.tmp 5) (Operand.const (Value.int IntKind.i64 1)), type := 0, pos := "law.go:149", after := #[{ on := 4, ground := Ground.gcOnly Departure.lateStores }], guard := none }) (v := _) [3, 5] [] rfl rfl (by kernel_rfl) (by kernel_rfl) (by kernel_rfl) (by kernel_rfl) (by kernel_rfl) (by kernel_rfl) (by kernel_rfl) (fun _ _ _ h => h) (Or.inl ⟨by rfl, Or.inl ?hy32⟩) ?rest32
    case hy32 => (intro w' kk ss; obtain ⟨q0, q1⟩ := (B1.out.since (K1.out.trans (hr0.trans kk))).two; go_simp; first | done | with_reducible rfl)
    try simp only [Act.put, List.setIfInBounds_toArray, List.set_cons_zero, List.set_cons_succ]
    refine' Reg.wpG_take (i := 3) (oi := { dst := some 17, op := Op.load 2 (Operand.tmp 16), type := 2, pos := "law.go:149", after := #[{ on := 2, ground := Ground.data }, { on := 4, ground := Ground.gcOnly Departure.lateStores }], guard := none }) (v := _) [5] [] rfl rfl (by kernel_rfl) (by kernel_rfl) (by kernel_rfl) (by kernel_rfl) (by kernel_rfl) (by kernel_rfl) (by kernel_rfl) (fun _ _ _ h => h) (Or.inl ⟨by rfl, Or.inl ?hy33⟩) ?rest33
    case hy33 => (intro w' kk ss; obtain ⟨q0, q1⟩ := (B1.out.since (K1.out.trans (hr0.trans kk))).two; go_simp; first | done | with_reducible rfl)
    try simp only [Act.put, List.setIfInBounds_toArray, List.set_cons_zero, List.set_cons_succ]
    refine' Reg.wpG_take (i := 4) (oi := { dst := some 7, op := Op.assign (Operand.tmp 15), type := 3, pos := "law.go:149", after := #[{ on := 1, ground := Ground.data }, { on := 0, ground := Ground.phase }, { on := 1, ground := Ground.phase }, { on := 2, ground := Ground.textOnly Departure.lateStores }, { on := 3, ground := Ground.textOnly Departure.lateStores }], guard := none }) (v := _) [5] [] rfl rfl (by kernel_rfl) (by kernel_rfl) (by kernel_rfl) (by kernel_rfl) (by kernel_rfl) (by kernel_rfl) (by kernel_rfl) (fun _ _ _ h => h) (Or.inl ⟨by rfl, Or.inl ?hy34⟩) ?rest34
    case hy34 => (intro w' kk ss; obtain ⟨q0, q1⟩ := (B1.out.since (K1.out.trans (hr0.trans kk))).two; go_simp; first | done | with_reducible rfl)
    try simp only [Act.put, List.setIfInBounds_toArray, List.set_cons_zero, List.set_cons_succ]
    refine' Reg.wpG_take (i := 5) (oi := { dst := some 8, op := Op.assign (Operand.tmp 17), type := 2, pos := "law.go:149", after := #[{ on := 3, ground := Ground.data }, { on := 4, ground := Ground.chain }, { on := 0, ground := Ground.phase }, { on := 1, ground := Ground.phase }, { on := 2, ground := Ground.phase }, { on := 3, ground := Ground.phase }, { on := 4, ground := Ground.phase }], guard := none }) (v := _) [] [] rfl rfl (by kernel_rfl) (by kernel_rfl) (by kernel_rfl) (by kernel_rfl) (by kernel_rfl) (by kernel_rfl) (by kernel_rfl) (fun _ _ _ h => h) (Or.inl ⟨by rfl, Or.inl ?hy35⟩) ?rest35
    case hy35 => (intro w' kk ss; obtain ⟨q0, q1⟩ := (B1.out.since (K1.out.trans (hr0.trans kk))).two; go_simp; first | done | with_reducible rfl)
    try simp only [Act.put, List.setIfInBounds_toArray, List.set_cons_zero, List.set_cons_succ]
    refine Reg.wpG_done (by kernel_rfl) (fun we ke se => ?_) _
    refine NoPanic.normal ?_
    have hr0 := hr0.trans ke
    clear ke
    obtain ⟨b0, b1, b2, b3⟩ := bx4 (B0.out.since (K1.out.trans hr0))
    have T1 := Lib.hid (S1.out.trans hr0)
    have U1 := Lib.hid (K1.out.trans hr0)
    clear hr0
    go_wp2_with (go_at_call 11; (with_reducible refine (FI.out _ T1.out).mono ?_); rintro e w2 ⟨rfl, k2⟩; have T2 := Lib.hid (T1.out.trans k2); have U2 := Lib.hid (U1.out.trans k2); clear k2; obtain ⟨b0, b1, b2, b3⟩ := bx4 (B0.out.since U2.out))
    skip
    go_loopw [35] (fun i wr => ∃ k : Nat, i = .int .i64 (k : Int) ∧ k ≤ n0 ∧ Hid (∀ x ∈ z0.x.take k, x ≠ (q : Int)) ∧ Hid (Since w2 wr)) (fun i _ => n0 - (intOf i).toNat)
    case atStart => exact ⟨0, rfl, Nat.zero_le _, Lib.hid (by simp), Since.refl _⟩
    case round =>
      obtain ⟨k, rfl, hk, HE, HW⟩ := hrel
      by_cases hkn : k < n0
      · have hkl : k < z0.x.length := by have := HN.out; omega
        obtain ⟨g, o, rfl, f0⟩ := elI (HX.out.since stI (T2.out.trans HW.out)) hkl
        have ht := List.take_succ_eq_append_getElem hkl
        generalize z0.x[k] = y at *
        have HT := Lib.hid ht
        clear ht hkl
        by_cases hy : y = (q : Int)
        · have z : (y == (q : Int)) = true := by rw [beq_iff_eq]; exact hy
          clear hy
          go_wp2
          go_ret
          exact ⟨rfl, T2.out.trans HW.out⟩
        · have z : (y == (q : Int)) = false := by rw [beq_eq_false_iff_ne]; exact hy
          have HE2 := Lib.hid (show ∀ x ∈ z0.x.take (k + 1), x ≠ (q : Int) by
            intro x hx
            rw [HT.out, List.mem_append, List.mem_singleton] at hx
            rcases hx with hx | rfl
            · exact HE.out x hx
            · exact hy)
          clear hy
          go_wp2
          go_roundw
          case rel => exact ⟨k + 1, by go_num, by omega, HE2.out, HW.out⟩
          case measure => simp [intOf]; omega
      · obtain rfl : n0 = k := by omega
        have hall : ∀ x ∈ z0.x, x ≠ (q : Int) := by have h := HE.out; rw [List.take_of_length_le (by have := HN.out; omega)] at h; exact h
        have HQ := Lib.hid ((HS.out hall).symm.trans HR.out)
        have T3 := Lib.hid (T2.out.trans HW.out)
        have U3 := Lib.hid (U2.out.trans HW.out)
        obtain ⟨b0, b1, b2, b3⟩ := bx4 (B0.out.since U3.out)
        have AS := Lib.hid (HAS.out.since stI T3.out)
        have hnl0 : 0 < nl := by omega
        have hnl1 : nl ≤ 1000000 := by omega
        have HLS := Lib.hid (show (z1.set q y2).length = nl by rw [List.length_set]; exact HNL.out.symm)
        have hq1 : q < z1.length := by have := HNL.out; omega
        have HQL := Lib.hid hq1
        clear hall HE HW hq1
        go_wp2_with (at_builtin; refine wpList_copyI AS.out hnl0 hnl1 (by rfl) _ _ rfl rfl rfl ?_; intro g d cur w6 hb hg hd hcur k6; have HBX := Lib.hid hb; have HCUR := Lib.hid hcur; have hqc := hcur q (z1[q]'HQL.out) (List.getElem?_eq_getElem HQL.out); have hcell := hb.cell q; rw [hqc] at hcell; have hfro := hb.no q; have HV := Lib.hid (show Since wr (w6.setCell ⟨g, q, none⟩ (.int .i64 y2)) from (k6.set (p := ⟨g, q, none⟩) hg _)); have HD := Lib.hid hd; clear hb hcur hqc k6 hg hd)
        obtain ⟨w9, hw9⟩ : ∃ w9, w9 = w6.setCell ⟨g, q, none⟩ (.int .i64 y2) := ⟨_, rfl⟩
        rw [← hw9]
        rw [← hw9] at HV
        have T9 := Lib.hid (T3.out.trans HV.out)
        have U9 := Lib.hid (U3.out.trans HV.out)
        have SB := Lib.hid (show Sl 1 QI w9 (.slice (some ⟨g, 0, none⟩) nl d) (z1.set q y2) by rw [hw9]; exact sl_bx (bxset HBX.out q (.int .i64 y2) rfl) HLS.out HD.out (cur_set HCUR.out HQL.out y2))
        have HB2 := Lib.hid (fun W k => holds_at (HC.out.since T9.out) SB.out HCA.out (by rw [HLS.out]; omega) HQ.out W k)
        clear hw9 hcell hfro HBX HCUR HV
        have hr0 : Since w9 w9.drew := Since.drew (Since.refl w9)
        refine wp_region_noPanic ?_
        refine Reg.wp_region_G (S := fun _ => True) (fun j => [].contains j) (by kernel_rfl) trivial ?_
        refine' Reg.wpG_take (i := 0) (oi := { dst := some 49, op := Op.load 25 (Operand.tmp 3), type := 25, pos := "law.go:160", after := #[], guard := none }) (v := _) [2, 5, 6, 7] [] rfl rfl (by kernel_rfl) (by kernel_rfl) (by kernel_rfl) (by kernel_rfl) (by kernel_rfl) (by kernel_rfl) (by kernel_rfl) (fun _ _ _ h => h) (Or.inl ⟨by rfl, Or.inl ?hy37⟩) ?rest37
        case hy37 => (intro w' kk ss; obtain ⟨x0, x1, x2', x3⟩ := bx4 (B0.out.since (U9.out.trans (hr0.trans kk))); go_simp; first | done | with_reducible rfl)
        try simp only [Act.put, List.setIfInBounds_toArray, List.set_cons_zero, List.set_cons_succ]
        refine' Reg.wpG_take (i := 1) (oi := { dst := some 50, op := Op.move (Operand.tmp 1), type := 23, pos := "law.go:160", after := #[], guard := none }) (v := _) [2, 5, 6, 7] [] rfl rfl (by kernel_rfl) (by kernel_rfl) (by kernel_rfl) (by kernel_rfl) (by kernel_rfl) (by kernel_rfl) (by kernel_rfl) (fun _ _ _ h => h) (Or.inl ⟨by rfl, Or.inl ?hy38⟩) ?rest38
        case hy38 => (intro w' kk ss; obtain ⟨x0, x1, x2', x3⟩ := bx4 (B0.out.since (U9.out.trans (hr0.trans kk))); go_simp; first | done | with_reducible rfl)
        try simp only [Act.put, List.setIfInBounds_toArray, List.set_cons_zero, List.set_cons_succ]
        refine Reg.wpG_take (i := 2) (oi := { dst := some 51, op := Op.call { callee := Callee.value (Operand.func 14), args := #[Operand.tmp 49, Operand.tmp 50], argTypes := #[25, 23] }, type := 4, pos := "law.go:160", after := #[{ on := 0, ground := Ground.data }, { on := 1, ground := Ground.data }], guard := none }) (v := .bool R) [5, 6, 7] [] rfl rfl (by kernel_rfl) (by kernel_rfl) (by kernel_rfl) (by kernel_rfl) (by kernel_rfl) (by kernel_rfl) (by kernel_rfl) (fun _ _ _ h => h) (Or.inl ⟨by rfl, Or.inr ⟨14, #[.agg #[.int .i64 k0k, .slice X0 n0 xc0, .slice Y0 m0 yc0, .int .i64 e0], .slice a1 nl cap1], fun w' kk ss => ⟨?_, ?_⟩⟩⟩) ?_
        · (try dsimp only at ss); go_simp
        · exact HA.out w' (T9.out.trans (hr0.trans kk))
        try simp only [Act.put, List.setIfInBounds_toArray, List.set_cons_zero, List.set_cons_succ]
        refine' Reg.wpG_take (i := 3) (oi := { dst := some 52, op := Op.load 25 (Operand.tmp 3), type := 25, pos := "law.go:160", after := #[], guard := none }) (v := _) [5, 6, 7] [] rfl rfl (by kernel_rfl) (by kernel_rfl) (by kernel_rfl) (by kernel_rfl) (by kernel_rfl) (by kernel_rfl) (by kernel_rfl) (fun _ _ _ h => h) (Or.inl ⟨by rfl, Or.inl ?hy39⟩) ?rest39
        case hy39 => (intro w' kk ss; obtain ⟨x0, x1, x2', x3⟩ := bx4 (B0.out.since (U9.out.trans (hr0.trans kk))); go_simp; first | done | with_reducible rfl)
        try simp only [Act.put, List.setIfInBounds_toArray, List.set_cons_zero, List.set_cons_succ]
        refine' Reg.wpG_take (i := 4) (oi := { dst := some 53, op := Op.move (Operand.tmp 11), type := 23, pos := "law.go:160", after := #[], guard := none }) (v := _) [5, 6, 7] [] rfl rfl (by kernel_rfl) (by kernel_rfl) (by kernel_rfl) (by kernel_rfl) (by kernel_rfl) (by kernel_rfl) (by kernel_rfl) (fun _ _ _ h => h) (Or.inl ⟨by rfl, Or.inl ?hy40⟩) ?rest40
        case hy40 => (intro w' kk ss; obtain ⟨x0, x1, x2', x3⟩ := bx4 (B0.out.since (U9.out.trans (hr0.trans kk))); go_simp; first | done | with_reducible rfl)
        try simp only [Act.put, List.setIfInBounds_toArray, List.set_cons_zero, List.set_cons_succ]
        refine Reg.wpG_take (i := 5) (oi := { dst := some 54, op := Op.call { callee := Callee.value (Operand.func 14), args := #[Operand.tmp 52, Operand.tmp 53], argTypes := #[25, 23] }, type := 4, pos := "law.go:160", after := #[{ on := 3, ground := Ground.data }, { on := 4, ground := Ground.data }, { on := 2, ground := Ground.chain }], guard := none }) (v := .bool R) [6, 7] [] rfl rfl (by kernel_rfl) (by kernel_rfl) (by kernel_rfl) (by kernel_rfl) (by kernel_rfl) (by kernel_rfl) (by kernel_rfl) (fun _ _ _ h => h) (Or.inl ⟨by rfl, Or.inr ⟨14, #[.agg #[.int .i64 k0k, .slice X0 n0 xc0, .slice Y0 m0 yc0, .int .i64 e0], .slice (some ⟨g, 0, none⟩) nl d], fun w' kk ss => ⟨?_, ?_⟩⟩⟩) ?_
        · (try dsimp only at ss); go_simp
        · exact HB2.out w' (hr0.trans kk)
        try simp only [Act.put, List.setIfInBounds_toArray, List.set_cons_zero, List.set_cons_succ]
        refine' Reg.wpG_take (i := 6) (oi := { dst := some 55, op := Op.binOp BinOp.eql 4 (Operand.tmp 51) (Operand.tmp 54) 4, type := 4, pos := "law.go:160", after := #[{ on := 2, ground := Ground.data }, { on := 5, ground := Ground.data }], guard := none }) (v := _) [7] [] rfl rfl (by kernel_rfl) (by kernel_rfl) (by kernel_rfl) (by kernel_rfl) (by kernel_rfl) (by kernel_rfl) (by kernel_rfl) (fun _ _ _ h => h) (Or.inl ⟨by rfl, Or.inl ?hy41⟩) ?rest41
        case hy41 => (intro w' kk ss; obtain ⟨x0, x1, x2', x3⟩ := bx4 (B0.out.since (U9.out.trans (hr0.trans kk))); go_simp; first | done | with_reducible rfl)
        try simp only [Act.put, List.setIfInBounds_toArray, List.set_cons_zero, List.set_cons_succ]
        refine' Reg.wpG_take (i := 7) (oi := { dst := some 6, op := Op.assign (Operand.tmp 55), type := 4, pos := "law.go:160", after := #[{ on := 6, ground := Ground.data }, { on := 5, ground := Ground.chain }, { on := 0, ground := Ground.phase }, { on := 1, ground := Ground.phase }, { on := 2, ground := Ground.phase }, { on := 3, ground := Ground.phase }, { on := 4, ground := Ground.phase }, { on := 5, ground := Ground.phase }, { on := 6, ground := Ground.phase }], guard := none }) (v := _) [] [] rfl rfl (by kernel_rfl) (by kernel_rfl) (by kernel_rfl) (by kernel_rfl) (by kernel_rfl) (by kernel_rfl) (by kernel_rfl) (fun _ _ _ h => h) (Or.inl ⟨by rfl, Or.inl ?hy42⟩) ?rest42
        case hy42 => (intro w' kk ss; obtain ⟨x0, x1, x2', x3⟩ := bx4 (B0.out.since (U9.out.trans (hr0.trans kk))); go_simp; first | done | with_reducible rfl)
        try simp only [Act.put, List.setIfInBounds_toArray, List.set_cons_zero, List.set_cons_succ]
        refine Reg.wpG_done (by kernel_rfl) (fun we ke se => ?_) _
        refine NoPanic.normal ?_
        have hr0 := hr0.trans ke
        clear ke
        go_wp2
        go_ret
        exact RetT.of (by simp) (T9.out.trans hr0)

set_option maxRecDepth 100000 in
theorem lifted (os : Os) (started : os.Started) (H : Type) (enc : TypeId × Value → H) :
    ReturnsInHanded {} Try.checked os 8 .any (Rows.senseFewSpec.pre6 enc Try.prog Try.f8 Rows.senseFewRow.domain false) (Rows.senseFewSpec.post enc Try.prog Try.f8 false true false false) := by
  refine returnsInHanded_of_change (C := Try.checked) own started (by kernel_rfl) Try.func8
    (ChangeSpec.witness6 (enc := enc) (C := Try.checked) false ⟨#[], #[.agg #[.int .i64 0, .slice none 0 0, .slice none 0 0, .int .i64 0], .slice none 0 0, .agg #[.int .i64 0, .int .i64 0]], []⟩ 8 (by kernel_rfl) (by kernel_rfl) (by kernel_rfl) (by kernel_rfl)) ?_
  intro W base args ds gs before hval0 hW hcnd _
  have hval : ∀ (j : Nat) t v, Try.f8.params[j]? = some t → args[j]? = some v → Value.okWide Try.prog W .any base t v := hval0
  have hW' := hW
  obtain ⟨p, q, hA0, hV, rfl, hfz, hnd⟩ := hW
  have hA : DataW.TrodAll enc Try.prog W 0 (fun _ => true) true Try.f8.params.toList args.toList ds p := hA0
  rw [Try.params8] at hA hval
  obtain ⟨v0, vs0, d0, ds0, p0, q0, hargs, rfl, rfl, h0, r0⟩ := trodAll_cons hA
  obtain ⟨v1, vs1, d1, ds1, p1, q1, rfl, rfl, rfl, h1, r1⟩ := trodAll_cons r0
  obtain ⟨v2, vs2, d2, ds2, p2, q2, rfl, rfl, rfl, h2, r2⟩ := trodAll_cons r1
  obtain ⟨rfl, rfl, rfl⟩ := trodAll_nil r2
  obtain rfl : args = #[v0, v1, v2] := by cases args; simp_all
  obtain ⟨rfl, rfl⟩ := trodVars_none hV
  obtain ⟨k0k, X0, n0, xc0, Y0, m0, yc0, e0, rfl, z0, w0⟩ := Go.Proofs.Ytfcinefmnigacaa.Sn.con_in ⟨Try.underlying25, ⟨rfl, rfl, rfl, rfl⟩, ⟨by kernel_rfl, by kernel_rfl, by kernel_rfl, by kernel_rfl⟩, Try.underlying3, Try.underlying22, Try.underlying23, Try.underlying2, Try.underlying3, by kernel_rfl, Try.underlying2, by kernel_rfl⟩ (by kernel_rfl) (hval 0 25 v0 rfl rfl) h0
  have k0 := h0
  have lt0 : ∀ x ∈ p0, x.block < W.heap.size := by obtain ⟨m, hm⟩ := k0; exact DataW.trod_lt m _ _ _ hm
  obtain ⟨a1, len1, cap1, rfl⟩ := okWide_slice Try.underlying23 (hval 1 23 v1 rfl rfl)
  have k1 := h1
  have lt1 : ∀ x ∈ p1, x.block < W.heap.size := by obtain ⟨m, hm⟩ := k1; exact DataW.trod_lt m _ _ _ hm
  obtain ⟨z1, w1⟩ : ∃ zs, Go.Proofs.Ytfcinefmnigacaa.Sn.IntsIn W a1 len1 cap1 zs := by
    obtain ⟨fuel, hf⟩ := h1
    exact Go.Proofs.Ytfcinefmnigacaa.Sn.ints_in Try.underlying23 Try.underlying2 (by kernel_rfl) hf
  obtain ⟨x2, y2, rfl, w2⟩ := Go.Proofs.Ytfcinefmnigacaa.Zs.array2_in Try.underlying41 (by kernel_rfl) (by kernel_rfl) Try.underlying2 (hval 2 41 v2 rfl rfl) h2
  have k2 := h2
  have lt2 : ∀ x ∈ p2, x.block < W.heap.size := by obtain ⟨m, hm⟩ := k2; exact DataW.trod_lt m _ _ _ hm
  clear hA0 hval0
  refine (walk k0k X0 n0 xc0 Y0 m0 yc0 e0 z0 a1 len1 cap1 z1 x2 y2 W w0 w1 w2).mono fun e W' ⟨he, bel⟩ => ?_
  subst he
  exact ⟨_, rfl, _, _, _, [], _, [], hW', trodAll_mk1 (shut_bool Try.underlying4 _), (trodAll_cons_mk (Below.trod laidOut (by kernel_rfl) (of_decide_eq_true (by kernel_rfl)) k0 bel lt0) (trodAll_cons_mk (Below.trod laidOut (by kernel_rfl) (of_decide_eq_true (by kernel_rfl)) k1 bel lt1) (trodAll_cons_mk (Below.trod laidOut (by kernel_rfl) (of_decide_eq_true (by kernel_rfl)) k2 bel lt2) trodAll_mk0))), rfl, bel.frame _, fun h => by cases h⟩

theorem over : Rows.senseFewRow.holds Try.pinned (OpenSpec.ofChange Rows.senseFewSpec) :=
  OpenClaim.holds_of_wide 8 Try.f8 rfl rfl rfl rfl rfl rfl rfl ⟨rfl, rfl, rfl, rfl, rfl⟩ rfl rfl rfl rfl rfl (by kernel_rfl) Try.func8 (by kernel_rfl)
    (of_decide_eq_true (by kernel_rfl)) (by unfold Func.isWrapper; first | (rw [if_pos (by decide +kernel)]; kernel_rfl) | (rw [if_neg (by decide +kernel)]; exact ⟨rfl, rfl⟩))
    (fun os started H enc _ => lifted os started H enc)

/-- THE STATEMENT -/
theorem proved : Rows.SenseFewSaid := over
#print axioms proved
end Go.Proofs.Ytfcinefmnigacaa.senseFew
