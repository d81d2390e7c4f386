/- Layer 11 (sense): the landed holds, of products and the like. -/
import Derived.Test.YtakfabaocgbbmaaUn
namespace Go.Proofs.Ytakfabaocgbbmaa.Sn
open Go.RowKit
set_option linter.unusedVariables false
set_option linter.unusedSimpArgs false
open Go.Proofs.Ytakfabaocgbbmaa.Dig Go.Proofs.Ytakfabaocgbbmaa.Lx Go.Proofs.Ytakfabaocgbbmaa.Tk Go.Proofs.Ytakfabaocgbbmaa.Ti Go.Proofs.Ytakfabaocgbbmaa.Zs Go.Proofs.Ytakfabaocgbbmaa.Tr

set_option maxRecDepth 20000 in
set_option maxHeartbeats 4000000 in
theorem holds_k7 (u : Value) (x a : List Int) (c : Int) (v : List Int) (w : World) (h : PlAt w u 7 x a c v) (hv : v.all within = true) (hn : v.length = 3) :
    Calls Try.prog 65 #[u] w (RetT (v.getD 0 0 * v.getD 1 0 == v.getD 2 0) w) := by
  have hb0 := fits_at hv (i := 0) (by omega)
  have hb1 := fits_at hv (i := 1) (by omega)
  have hb2 := fits_at hv (i := 2) (by omega)
  obtain ⟨X, xc, Y, yc, V, vc, rfl, h1, h2, h3⟩ := h
  rw [hn] at h3 ⊢
  obtain ⟨b, o, rfl, e0⟩ := getI h3 0 (by omega)
  obtain ⟨b1, o1, g1, e1⟩ := getI h3 1 (by omega)
  simp only [Option.some.injEq, Addr.mk.injEq, and_true] at g1
  obtain ⟨rfl, rfl⟩ := g1
  obtain ⟨b2, o2, g2, e2⟩ := getI h3 2 (by omega)
  simp only [Option.some.injEq, Addr.mk.injEq, and_true] at g2
  obtain ⟨rfl, rfl⟩ := g2
  simp only [Nat.add_zero] at e0
  generalize v.getD 0 0 = p at *
  generalize v.getD 1 0 = q at *
  generalize v.getD 2 0 = r at *
  generalize x.length = nx at *
  generalize a.length = na at *
  have HC := Lib.hid (fun W (kk : Since w W) => (show W.cell? ⟨b, o, none⟩ = some (.int .i64 p) ∧ W.cell? ⟨b, o + 1, none⟩ = some (.int .i64 q) ∧ W.cell? ⟨b, o + 2, none⟩ = some (.int .i64 r) from ⟨(kk.cell _ (World.block_lt_of_cell? _ _ e0)).trans e0, (kk.cell _ (World.block_lt_of_cell? _ _ e1)).trans e1, (kk.cell _ (World.block_lt_of_cell? _ _ e2)).trans e2⟩))
  clear h1 h2 h3 hv hn e0 e1 e2
  have hw : IntKind.i64.wrap (p * q) = p * q := by have := mulB ((within_iff' p).2 hb0) ((within_iff' q).2 hb1); exact wrap_id' (by omega) (by omega)
  have ka := Lib.hid (since_alloc w (.cells #[.int .i64 7, .slice X nx xc, .slice Y na yc, .int .i64 c, .slice (some ⟨b, o, none⟩) 3 vc] 73))
  have BX := Lib.hid (fun W (kk : Since (w.alloc (.cells #[.int .i64 7, .slice X nx xc, .slice Y na yc, .int .i64 c, .slice (some ⟨b, o, none⟩) 3 vc] 73)) W) => (Bx.fresh w #[.int .i64 7, .slice X nx xc, .slice Y na yc, .int .i64 c, .slice (some ⟨b, o, none⟩) 3 vc] 73).since kk)
  go_enter Try.func65, Try.ntmps65
  go_wp2
  obtain ⟨W0, hW0⟩ : ∃ W0, W0 = w.alloc (.cells #[.int .i64 7, .slice X nx xc, .slice Y na yc, .int .i64 c, .slice (some ⟨b, o, none⟩) 3 vc] 73) := ⟨_, rfl⟩
  rw [← hW0]
  rw [← hW0] at ka BX
  clear hW0
  have hr0 : Since W0 W0.drew := Since.drew (Since.refl W0)
  refine wp_region_noPanic ?_
  refine Reg.wp_region_G (S := fun _ => True) (fun j => [].contains j) (by kernel_rfl) trivial ?_
  refine' Reg.wpG_take (i := 0) (oi := { dst := some 67, op := Op.fieldAddr 73 (Operand.tmp 1) 1, type := 0, pos := "kinds.go:25", after := #[], guard := none }) (v := _) [1, 2, 3, 8, 13, 14] [] rfl rfl (by kernel_rfl) (by kernel_rfl) (by kernel_rfl) (by kernel_rfl) (by kernel_rfl) (by kernel_rfl) (by kernel_rfl) (fun _ _ _ h => h) (Or.inl ⟨by rfl, Or.inl ?hy58⟩) ?rest58
  case hy58 => (intro w' kk ss; obtain ⟨x0, x1, x2, x3, x4⟩ := bx5 (BX.out _ (hr0.trans kk)); obtain ⟨u0, u1, u2⟩ := HC.out _ (ka.out.trans (hr0.trans kk)); go_simp; first | done | with_reducible rfl)
  try simp only [Act.put, List.setIfInBounds_toArray, List.set_cons_zero, List.set_cons_succ]
  refine' Reg.wpG_take (i := 1) (oi := { dst := some 68, op := Op.load 23 (Operand.tmp 67), type := 23, pos := "kinds.go:25", after := #[{ on := 0, ground := Ground.data }], guard := none }) (v := _) [2, 3, 8, 13, 14] [] rfl rfl (by kernel_rfl) (by kernel_rfl) (by kernel_rfl) (by kernel_rfl) (by kernel_rfl) (by kernel_rfl) (by kernel_rfl) (fun _ _ _ h => h) (Or.inl ⟨by rfl, Or.inl ?hy59⟩) ?rest59
  case hy59 => (intro w' kk ss; obtain ⟨x0, x1, x2, x3, x4⟩ := bx5 (BX.out _ (hr0.trans kk)); obtain ⟨u0, u1, u2⟩ := HC.out _ (ka.out.trans (hr0.trans kk)); go_simp; first | done | with_reducible rfl)
  try simp only [Act.put, List.setIfInBounds_toArray, List.set_cons_zero, List.set_cons_succ]
  refine' Reg.wpG_take (i := 2) (oi := { dst := some 69, op := Op.indexAddr 23 (Operand.tmp 68) (Operand.const (Value.int IntKind.i64 0)), type := 0, pos := "kinds.go:25", after := #[{ on := 1, ground := Ground.data }], guard := none }) (v := _) [3, 8, 13, 14] [] rfl rfl (by kernel_rfl) (by kernel_rfl) (by kernel_rfl) (by kernel_rfl) (by kernel_rfl) (by kernel_rfl) (by kernel_rfl) (fun _ _ _ h => h) (Or.inl ⟨by rfl, Or.inl ?hy60⟩) ?rest60
  case hy60 => (intro w' kk ss; obtain ⟨x0, x1, x2, x3, x4⟩ := bx5 (BX.out _ (hr0.trans kk)); obtain ⟨u0, u1, u2⟩ := HC.out _ (ka.out.trans (hr0.trans kk)); go_simp; first | done | with_reducible rfl)
  try simp only [Act.put, List.setIfInBounds_toArray, List.set_cons_zero, List.set_cons_succ]
  refine' Reg.wpG_take (i := 3) (oi := { dst := some 70, op := Op.load 2 (Operand.tmp 69), type := 2, pos := "kinds.go:25", after := #[{ on := 2, ground := Ground.data }], guard := none }) (v := _) [8, 13, 14] [] rfl rfl (by kernel_rfl) (by kernel_rfl) (by kernel_rfl) (by kernel_rfl) (by kernel_rfl) (by kernel_rfl) (by kernel_rfl) (fun _ _ _ h => h) (Or.inl ⟨by rfl, Or.inl ?hy61⟩) ?rest61
  case hy61 => (intro w' kk ss; obtain ⟨x0, x1, x2, x3, x4⟩ := bx5 (BX.out _ (hr0.trans kk)); obtain ⟨u0, u1, u2⟩ := HC.out _ (ka.out.trans (hr0.trans kk)); go_simp; first | done | with_reducible rfl)
  try simp only [Act.put, List.setIfInBounds_toArray, List.set_cons_zero, List.set_cons_succ]
  refine' Reg.wpG_take (i := 4) (oi := { dst := some 71, op := Op.fieldAddr 73 (Operand.tmp 1) 1, type := 0, pos := "kinds.go:25", after := #[], guard := none }) (v := _) [5, 6, 7, 8, 13, 14] [] rfl rfl (by kernel_rfl) (by kernel_rfl) (by kernel_rfl) (by kernel_rfl) (by kernel_rfl) (by kernel_rfl) (by kernel_rfl) (fun _ _ _ h => h) (Or.inl ⟨by rfl, Or.inl ?hy62⟩) ?rest62
  case hy62 => (intro w' kk ss; obtain ⟨x0, x1, x2, x3, x4⟩ := bx5 (BX.out _ (hr0.trans kk)); obtain ⟨u0, u1, u2⟩ := HC.out _ (ka.out.trans (hr0.trans kk)); go_simp; first | done | with_reducible rfl)
  try simp only [Act.put, List.setIfInBounds_toArray, List.set_cons_zero, List.set_cons_succ]
  refine' Reg.wpG_take (i := 5) (oi := { dst := some 72, op := Op.load 23 (Operand.tmp 71), type := 23, pos := "kinds.go:25", after := #[{ on := 4, ground := Ground.data }], guard := none }) (v := _) [6, 7, 8, 13, 14] [] rfl rfl (by kernel_rfl) (by kernel_rfl) (by kernel_rfl) (by kernel_rfl) (by kernel_rfl) (by kernel_rfl) (by kernel_rfl) (fun _ _ _ h => h) (Or.inl ⟨by rfl, Or.inl ?hy63⟩) ?rest63
  case hy63 => (intro w' kk ss; obtain ⟨x0, x1, x2, x3, x4⟩ := bx5 (BX.out _ (hr0.trans kk)); obtain ⟨u0, u1, u2⟩ := HC.out _ (ka.out.trans (hr0.trans kk)); go_simp; first | done | with_reducible rfl)
  try simp only [Act.put, List.setIfInBounds_toArray, List.set_cons_zero, List.set_cons_succ]
  refine' Reg.wpG_take (i := 6) (oi := { dst := some 73, op := Op.indexAddr 23 (Operand.tmp 72) (Operand.const (Value.int IntKind.i64 1)), type := 0, pos := "kinds.go:25", after := #[{ on := 5, ground := Ground.data }], guard := none }) (v := _) [7, 8, 13, 14] [] rfl rfl (by kernel_rfl) (by kernel_rfl) (by kernel_rfl) (by kernel_rfl) (by kernel_rfl) (by kernel_rfl) (by kernel_rfl) (fun _ _ _ h => h) (Or.inl ⟨by rfl, Or.inl ?hy64⟩) ?rest64
  case hy64 => (intro w' kk ss; obtain ⟨x0, x1, x2, x3, x4⟩ := bx5 (BX.out _ (hr0.trans kk)); obtain ⟨u0, u1, u2⟩ := HC.out _ (ka.out.trans (hr0.trans kk)); go_simp; first | done | with_reducible rfl)
  try simp only [Act.put, List.setIfInBounds_toArray, List.set_cons_zero, List.set_cons_succ]
  refine' Reg.wpG_take (i := 7) (oi := { dst := some 74, op := Op.load 2 (Operand.tmp 73), type := 2, pos := "kinds.go:25", after := #[{ on := 6, ground := Ground.data }], guard := none }) (v := _) [8, 13, 14] [] rfl rfl (by kernel_rfl) (by kernel_rfl) (by kernel_rfl) (by kernel_rfl) (by kernel_rfl) (by kernel_rfl) (by kernel_rfl) (fun _ _ _ h => h) (Or.inl ⟨by rfl, Or.inl ?hy65⟩) ?rest65
  case hy65 => (intro w' kk ss; obtain ⟨x0, x1, x2, x3, x4⟩ := bx5 (BX.out _ (hr0.trans kk)); obtain ⟨u0, u1, u2⟩ := HC.out _ (ka.out.trans (hr0.trans kk)); go_simp; first | done | with_reducible rfl)
  try simp only [Act.put, List.setIfInBounds_toArray, List.set_cons_zero, List.set_cons_succ]
  refine' Reg.wpG_take (i := 8) (oi := { dst := some 75, op := Op.binOp BinOp.mul 2 (Operand.tmp 70) (Operand.tmp 74) 2, type := 2, pos := "kinds.go:25", after := #[{ on := 3, ground := Ground.data }, { on := 7, ground := Ground.data }], guard := none }) (v := _) [13, 14] [] rfl rfl (by kernel_rfl) (by kernel_rfl) (by kernel_rfl) (by kernel_rfl) (by kernel_rfl) (by kernel_rfl) (by kernel_rfl) (fun _ _ _ h => h) (Or.inl ⟨by rfl, Or.inl ?hy66⟩) ?rest66
  case hy66 => (intro w' kk ss; obtain ⟨x0, x1, x2, x3, x4⟩ := bx5 (BX.out _ (hr0.trans kk)); obtain ⟨u0, u1, u2⟩ := HC.out _ (ka.out.trans (hr0.trans kk)); go_simp; first | done | with_reducible rfl)
  try simp only [Act.put, List.setIfInBounds_toArray, List.set_cons_zero, List.set_cons_succ]
  refine' Reg.wpG_take (i := 9) (oi := { dst := some 76, op := Op.fieldAddr 73 (Operand.tmp 1) 1, type := 0, pos := "kinds.go:25", after := #[], guard := none }) (v := _) [10, 11, 12, 13, 14] [] rfl rfl (by kernel_rfl) (by kernel_rfl) (by kernel_rfl) (by kernel_rfl) (by kernel_rfl) (by kernel_rfl) (by kernel_rfl) (fun _ _ _ h => h) (Or.inl ⟨by rfl, Or.inl ?hy67⟩) ?rest67
  case hy67 => (intro w' kk ss; obtain ⟨x0, x1, x2, x3, x4⟩ := bx5 (BX.out _ (hr0.trans kk)); obtain ⟨u0, u1, u2⟩ := HC.out _ (ka.out.trans (hr0.trans kk)); go_simp; first | done | with_reducible rfl)
  try simp only [Act.put, List.setIfInBounds_toArray, List.set_cons_zero, List.set_cons_succ]
  refine' Reg.wpG_take (i := 10) (oi := { dst := some 77, op := Op.load 23 (Operand.tmp 76), type := 23, pos := "kinds.go:25", after := #[{ on := 9, ground := Ground.data }], guard := none }) (v := _) [11, 12, 13, 14] [] rfl rfl (by kernel_rfl) (by kernel_rfl) (by kernel_rfl) (by kernel_rfl) (by kernel_rfl) (by kernel_rfl) (by kernel_rfl) (fun _ _ _ h => h) (Or.inl ⟨by rfl, Or.inl ?hy68⟩) ?rest68
  case hy68 => (intro w' kk ss; obtain ⟨x0, x1, x2, x3, x4⟩ := bx5 (BX.out _ (hr0.trans kk)); obtain ⟨u0, u1, u2⟩ := HC.out _ (ka.out.trans (hr0.trans kk)); go_simp; first | done | with_reducible rfl)
  try simp only [Act.put, List.setIfInBounds_toArray, List.set_cons_zero, List.set_cons_succ]
  refine' Reg.wpG_take (i := 11) (oi := { dst := some 78, op := Op.indexAddr 23 (Operand.tmp 77) (Operand.const (Value.int IntKind.i64 2)), type := 0, pos := "kinds.go:25", after := #[{ on := 10, ground := Ground.data }], guard := none }) (v := _) [12, 13, 14] [] rfl rfl (by kernel_rfl) (by kernel_rfl) (by kernel_rfl) (by kernel_rfl) (by kernel_rfl) (by kernel_rfl) (by kernel_rfl) (fun _ _ _ h => h) (Or.inl ⟨by rfl, Or.inl ?hy69⟩) ?rest69
  case hy69 => (intro w' kk ss; obtain ⟨x0, x1, x2, x3, x4⟩ := bx5 (BX.out _ (hr0.trans kk)); obtain ⟨u0, u1, u2⟩ := HC.out _ (ka.out.trans (hr0.trans kk)); go_simp; first | done | with_reducible rfl)
  try simp only [Act.put, List.setIfInBounds_toArray, List.set_cons_zero, List.set_cons_succ]
  refine' Reg.wpG_take (i := 12) (oi := { dst := some 79, op := Op.load 2 (Operand.tmp 78), type := 2, pos := "kinds.go:25", after := #[{ on := 11, ground := Ground.data }], guard := none }) (v := _) [13, 14] [] rfl rfl (by kernel_rfl) (by kernel_rfl) (by kernel_rfl) (by kernel_rfl) (by kernel_rfl) (by kernel_rfl) (by kernel_rfl) (fun _ _ _ h => h) (Or.inl ⟨by rfl, Or.inl ?hy70⟩) ?rest70
  case hy70 => (intro w' kk ss; obtain ⟨x0, x1, x2, x3, x4⟩ := bx5 (BX.out _ (hr0.trans kk)); obtain ⟨u0, u1, u2⟩ := HC.out _ (ka.out.trans (hr0.trans kk)); go_simp; first | done | with_reducible rfl)
  try simp only [Act.put, List.setIfInBounds_toArray, List.set_cons_zero, List.set_cons_succ]
  refine' Reg.wpG_take (i := 13) (oi := { dst := some 80, op := Op.binOp BinOp.eql 2 (Operand.tmp 75) (Operand.tmp 79) 2, type := 4, pos := "kinds.go:25", after := #[{ on := 8, ground := Ground.data }, { on := 12, ground := Ground.data }], guard := none }) (v := _) [14] [] rfl rfl (by kernel_rfl) (by kernel_rfl) (by kernel_rfl) (by kernel_rfl) (by kernel_rfl) (by kernel_rfl) (by kernel_rfl) (fun _ _ _ h => h) (Or.inl ⟨by rfl, Or.inl ?hy71⟩) ?rest71
  case hy71 => (intro w' kk ss; obtain ⟨x0, x1, x2, x3, x4⟩ := bx5 (BX.out _ (hr0.trans kk)); obtain ⟨u0, u1, u2⟩ := HC.out _ (ka.out.trans (hr0.trans kk)); go_simp; first | done | with_reducible rfl)
  try simp only [Act.put, List.setIfInBounds_toArray, List.set_cons_zero, List.set_cons_succ]
  refine' Reg.wpG_take (i := 14) (oi := { dst := some 2, op := Op.assign (Operand.tmp 80), type := 4, pos := "kinds.go:25", after := #[{ on := 13, ground := Ground.data }, { on := 0, ground := Ground.phase }, { on := 1, ground := Ground.phase }, { on := 2, ground := Ground.phase }, { on := 3, ground := Ground.phase }, { on := 4, ground := Ground.phase }, { on := 5, ground := Ground.phase }, { on := 6, ground := Ground.phase }, { on := 7, ground := Ground.phase }, { on := 8, ground := Ground.phase }, { on := 9, ground := Ground.phase }, { on := 10, ground := Ground.phase }, { on := 11, ground := Ground.phase }, { on := 12, ground := Ground.phase }, { on := 13, ground := Ground.phase }], guard := none }) (v := _) [] [] rfl rfl (by kernel_rfl) (by kernel_rfl) (by kernel_rfl) (by kernel_rfl) (by kernel_rfl) (by kernel_rfl) (by kernel_rfl) (fun _ _ _ h => h) (Or.inl ⟨by rfl, Or.inl ?hy72⟩) ?rest72
  case hy72 => (intro w' kk ss; obtain ⟨x0, x1, x2, x3, x4⟩ := bx5 (BX.out _ (hr0.trans kk)); obtain ⟨u0, u1, u2⟩ := HC.out _ (ka.out.trans (hr0.trans kk)); go_simp; first | done | with_reducible rfl)
  try simp only [Act.put, List.setIfInBounds_toArray, List.set_cons_zero, List.set_cons_succ]
  refine Reg.wpG_done (by kernel_rfl) (fun we ke se => ?_) _
  refine NoPanic.normal ?_
  have hr0 := hr0.trans ke
  clear ke
  go_wp2
  all_goals go_ret
  exact ⟨rfl, ka.out.trans hr0⟩
set_option maxRecDepth 20000 in
set_option maxHeartbeats 4000000 in
theorem holds_k8 (u : Value) (x a : List Int) (c : Int) (v : List Int) (w : World) (h : PlAt w u 8 x a c v) (hv : v.all within = true) (hn : v.length = 3) :
    Calls Try.prog 65 #[u] w (RetT (min (v.getD 0 0) (v.getD 1 0) == v.getD 2 0) w) := by
  have hb0 := fits_at hv (i := 0) (by omega)
  have hb1 := fits_at hv (i := 1) (by omega)
  have hb2 := fits_at hv (i := 2) (by omega)
  obtain ⟨X, xc, Y, yc, V, vc, rfl, h1, h2, h3⟩ := h
  rw [hn] at h3 ⊢
  obtain ⟨b, o, rfl, e0⟩ := getI h3 0 (by omega)
  obtain ⟨b1, o1, g1, e1⟩ := getI h3 1 (by omega)
  simp only [Option.some.injEq, Addr.mk.injEq, and_true] at g1
  obtain ⟨rfl, rfl⟩ := g1
  obtain ⟨b2, o2, g2, e2⟩ := getI h3 2 (by omega)
  simp only [Option.some.injEq, Addr.mk.injEq, and_true] at g2
  obtain ⟨rfl, rfl⟩ := g2
  simp only [Nat.add_zero] at e0
  generalize v.getD 0 0 = p at *
  generalize v.getD 1 0 = q at *
  generalize v.getD 2 0 = r at *
  generalize x.length = nx at *
  generalize a.length = na at *
  have HC := Lib.hid (fun W (kk : Since w W) => (show W.cell? ⟨b, o, none⟩ = some (.int .i64 p) ∧ W.cell? ⟨b, o + 1, none⟩ = some (.int .i64 q) ∧ W.cell? ⟨b, o + 2, none⟩ = some (.int .i64 r) from ⟨(kk.cell _ (World.block_lt_of_cell? _ _ e0)).trans e0, (kk.cell _ (World.block_lt_of_cell? _ _ e1)).trans e1, (kk.cell _ (World.block_lt_of_cell? _ _ e2)).trans e2⟩))
  clear h1 h2 h3 hv hn e0 e1 e2
  have ka := Lib.hid (since_alloc w (.cells #[.int .i64 8, .slice X nx xc, .slice Y na yc, .int .i64 c, .slice (some ⟨b, o, none⟩) 3 vc] 73))
  have BX := Lib.hid (fun W (kk : Since (w.alloc (.cells #[.int .i64 8, .slice X nx xc, .slice Y na yc, .int .i64 c, .slice (some ⟨b, o, none⟩) 3 vc] 73)) W) => (Bx.fresh w #[.int .i64 8, .slice X nx xc, .slice Y na yc, .int .i64 c, .slice (some ⟨b, o, none⟩) 3 vc] 73).since kk)
  go_enter Try.func65, Try.ntmps65
  go_wp2
  obtain ⟨W0, hW0⟩ : ∃ W0, W0 = w.alloc (.cells #[.int .i64 8, .slice X nx xc, .slice Y na yc, .int .i64 c, .slice (some ⟨b, o, none⟩) 3 vc] 73) := ⟨_, rfl⟩
  rw [← hW0]
  rw [← hW0] at ka BX
  clear hW0
  have hr0 : Since W0 W0.drew := Since.drew (Since.refl W0)
  refine wp_region_noPanic ?_
  refine Reg.wp_region_G (S := fun _ => True) (fun j => [].contains j) (by kernel_rfl) trivial ?_
  refine' Reg.wpG_take (i := 0) (oi := { dst := some 83, op := Op.fieldAddr 73 (Operand.tmp 1) 1, type := 0, pos := "kinds.go:27", after := #[], guard := none }) (v := _) [1, 2, 3, 8, 13, 14] [] rfl rfl (by kernel_rfl) (by kernel_rfl) (by kernel_rfl) (by kernel_rfl) (by kernel_rfl) (by kernel_rfl) (by kernel_rfl) (fun _ _ _ h => h) (Or.inl ⟨by rfl, Or.inl ?hy74⟩) ?rest74
  case hy74 => (intro w' kk ss; obtain ⟨x0, x1, x2, x3, x4⟩ := bx5 (BX.out _ (hr0.trans kk)); obtain ⟨u0, u1, u2⟩ := HC.out _ (ka.out.trans (hr0.trans kk)); go_simp; first | done | with_reducible rfl)
  try simp only [Act.put, List.setIfInBounds_toArray, List.set_cons_zero, List.set_cons_succ]
  refine' Reg.wpG_take (i := 1) (oi := { dst := some 84, op := Op.load 23 (Operand.tmp 83), type := 23, pos := "kinds.go:27", after := #[{ on := 0, ground := Ground.data }], guard := none }) (v := _) [2, 3, 8, 13, 14] [] rfl rfl (by kernel_rfl) (by kernel_rfl) (by kernel_rfl) (by kernel_rfl) (by kernel_rfl) (by kernel_rfl) (by kernel_rfl) (fun _ _ _ h => h) (Or.inl ⟨by rfl, Or.inl ?hy75⟩) ?rest75
  case hy75 => (intro w' kk ss; obtain ⟨x0, x1, x2, x3, x4⟩ := bx5 (BX.out _ (hr0.trans kk)); obtain ⟨u0, u1, u2⟩ := HC.out _ (ka.out.trans (hr0.trans kk)); go_simp; first | done | with_reducible rfl)
  try simp only [Act.put, List.setIfInBounds_toArray, List.set_cons_zero, List.set_cons_succ]
  refine' Reg.wpG_take (i := 2) (oi := { dst := some 85, op := Op.indexAddr 23 (Operand.tmp 84) (Operand.const (Value.int IntKind.i64 0)), type := 0, pos := "kinds.go:27", after := #[{ on := 1, ground := Ground.data }], guard := none }) (v := _) [3, 8, 13, 14] [] rfl rfl (by kernel_rfl) (by kernel_rfl) (by kernel_rfl) (by kernel_rfl) (by kernel_rfl) (by kernel_rfl) (by kernel_rfl) (fun _ _ _ h => h) (Or.inl ⟨by rfl, Or.inl ?hy76⟩) ?rest76
  case hy76 => (intro w' kk ss; obtain ⟨x0, x1, x2, x3, x4⟩ := bx5 (BX.out _ (hr0.trans kk)); obtain ⟨u0, u1, u2⟩ := HC.out _ (ka.out.trans (hr0.trans kk)); go_simp; first | done | with_reducible rfl)
  try simp only [Act.put, List.setIfInBounds_toArray, List.set_cons_zero, List.set_cons_succ]
  refine' Reg.wpG_take (i := 3) (oi := { dst := some 86, op := Op.load 2 (Operand.tmp 85), type := 2, pos := "kinds.go:27", after := #[{ on := 2, ground := Ground.data }], guard := none }) (v := _) [8, 13, 14] [] rfl rfl (by kernel_rfl) (by kernel_rfl) (by kernel_rfl) (by kernel_rfl) (by kernel_rfl) (by kernel_rfl) (by kernel_rfl) (fun _ _ _ h => h) (Or.inl ⟨by rfl, Or.inl ?hy77⟩) ?rest77
  case hy77 => (intro w' kk ss; obtain ⟨x0, x1, x2, x3, x4⟩ := bx5 (BX.out _ (hr0.trans kk)); obtain ⟨u0, u1, u2⟩ := HC.out _ (ka.out.trans (hr0.trans kk)); go_simp; first | done | with_reducible rfl)
  try simp only [Act.put, List.setIfInBounds_toArray, List.set_cons_zero, List.set_cons_succ]
  refine' Reg.wpG_take (i := 4) (oi := { dst := some 87, op := Op.fieldAddr 73 (Operand.tmp 1) 1, type := 0, pos := "kinds.go:27", after := #[], guard := none }) (v := _) [5, 6, 7, 8, 13, 14] [] rfl rfl (by kernel_rfl) (by kernel_rfl) (by kernel_rfl) (by kernel_rfl) (by kernel_rfl) (by kernel_rfl) (by kernel_rfl) (fun _ _ _ h => h) (Or.inl ⟨by rfl, Or.inl ?hy78⟩) ?rest78
  case hy78 => (intro w' kk ss; obtain ⟨x0, x1, x2, x3, x4⟩ := bx5 (BX.out _ (hr0.trans kk)); obtain ⟨u0, u1, u2⟩ := HC.out _ (ka.out.trans (hr0.trans kk)); go_simp; first | done | with_reducible rfl)
  try simp only [Act.put, List.setIfInBounds_toArray, List.set_cons_zero, List.set_cons_succ]
  refine' Reg.wpG_take (i := 5) (oi := { dst := some 88, op := Op.load 23 (Operand.tmp 87), type := 23, pos := "kinds.go:27", after := #[{ on := 4, ground := Ground.data }], guard := none }) (v := _) [6, 7, 8, 13, 14] [] rfl rfl (by kernel_rfl) (by kernel_rfl) (by kernel_rfl) (by kernel_rfl) (by kernel_rfl) (by kernel_rfl) (by kernel_rfl) (fun _ _ _ h => h) (Or.inl ⟨by rfl, Or.inl ?hy79⟩) ?rest79
  case hy79 => (intro w' kk ss; obtain ⟨x0, x1, x2, x3, x4⟩ := bx5 (BX.out _ (hr0.trans kk)); obtain ⟨u0, u1, u2⟩ := HC.out _ (ka.out.trans (hr0.trans kk)); go_simp; first | done | with_reducible rfl)
  try simp only [Act.put, List.setIfInBounds_toArray, List.set_cons_zero, List.set_cons_succ]
  refine' Reg.wpG_take (i := 6) (oi := { dst := some 89, op := Op.indexAddr 23 (Operand.tmp 88) (Operand.const (Value.int IntKind.i64 1)), type := 0, pos := "kinds.go:27", after := #[{ on := 5, ground := Ground.data }], guard := none }) (v := _) [7, 8, 13, 14] [] rfl rfl (by kernel_rfl) (by kernel_rfl) (by kernel_rfl) (by kernel_rfl) (by kernel_rfl) (by kernel_rfl) (by kernel_rfl) (fun _ _ _ h => h) (Or.inl ⟨by rfl, Or.inl ?hy80⟩) ?rest80
  case hy80 => (intro w' kk ss; obtain ⟨x0, x1, x2, x3, x4⟩ := bx5 (BX.out _ (hr0.trans kk)); obtain ⟨u0, u1, u2⟩ := HC.out _ (ka.out.trans (hr0.trans kk)); go_simp; first | done | with_reducible rfl)
  try simp only [Act.put, List.setIfInBounds_toArray, List.set_cons_zero, List.set_cons_succ]
  refine' Reg.wpG_take (i := 7) (oi := { dst := some 90, op := Op.load 2 (Operand.tmp 89), type := 2, pos := "kinds.go:27", after := #[{ on := 6, ground := Ground.data }], guard := none }) (v := _) [8, 13, 14] [] rfl rfl (by kernel_rfl) (by kernel_rfl) (by kernel_rfl) (by kernel_rfl) (by kernel_rfl) (by kernel_rfl) (by kernel_rfl) (fun _ _ _ h => h) (Or.inl ⟨by rfl, Or.inl ?hy81⟩) ?rest81
  case hy81 => (intro w' kk ss; obtain ⟨x0, x1, x2, x3, x4⟩ := bx5 (BX.out _ (hr0.trans kk)); obtain ⟨u0, u1, u2⟩ := HC.out _ (ka.out.trans (hr0.trans kk)); go_simp; first | done | with_reducible rfl)
  try simp only [Act.put, List.setIfInBounds_toArray, List.set_cons_zero, List.set_cons_succ]
  refine' Reg.wpG_take (i := 8) (oi := { dst := some 91, op := Op.call { callee := Callee.builtin Builtin.min, args := #[Operand.tmp 86, Operand.tmp 90], argTypes := #[2, 2] }, type := 2, pos := "kinds.go:27", after := #[{ on := 3, ground := Ground.data }, { on := 7, ground := Ground.data }], guard := none }) (v := _) [13, 14] [] rfl rfl (by kernel_rfl) (by kernel_rfl) (by kernel_rfl) (by kernel_rfl) (by kernel_rfl) (by kernel_rfl) (by kernel_rfl) (fun _ _ _ h => h) (Or.inl ⟨by rfl, Or.inl ?hy82⟩) ?rest82
  case hy82 => (intro w' kk ss; obtain ⟨x0, x1, x2, x3, x4⟩ := bx5 (BX.out _ (hr0.trans kk)); obtain ⟨u0, u1, u2⟩ := HC.out _ (ka.out.trans (hr0.trans kk)); go_simp; first | done | with_reducible rfl)
  try simp only [Act.put, List.setIfInBounds_toArray, List.set_cons_zero, List.set_cons_succ]
  refine' Reg.wpG_take (i := 9) (oi := { dst := some 92, op := Op.fieldAddr 73 (Operand.tmp 1) 1, type := 0, pos := "kinds.go:27", after := #[], guard := none }) (v := _) [10, 11, 12, 13, 14] [] rfl rfl (by kernel_rfl) (by kernel_rfl) (by kernel_rfl) (by kernel_rfl) (by kernel_rfl) (by kernel_rfl) (by kernel_rfl) (fun _ _ _ h => h) (Or.inl ⟨by rfl, Or.inl ?hy83⟩) ?rest83
  case hy83 => (intro w' kk ss; obtain ⟨x0, x1, x2, x3, x4⟩ := bx5 (BX.out _ (hr0.trans kk)); obtain ⟨u0, u1, u2⟩ := HC.out _ (ka.out.trans (hr0.trans kk)); go_simp; first | done | with_reducible rfl)
  try simp only [Act.put, List.setIfInBounds_toArray, List.set_cons_zero, List.set_cons_succ]
  refine' Reg.wpG_take (i := 10) (oi := { dst := some 93, op := Op.load 23 (Operand.tmp 92), type := 23, pos := "kinds.go:27", after := #[{ on := 9, ground := Ground.data }], guard := none }) (v := _) [11, 12, 13, 14] [] rfl rfl (by kernel_rfl) (by kernel_rfl) (by kernel_rfl) (by kernel_rfl) (by kernel_rfl) (by kernel_rfl) (by kernel_rfl) (fun _ _ _ h => h) (Or.inl ⟨by rfl, Or.inl ?hy84⟩) ?rest84
  case hy84 => (intro w' kk ss; obtain ⟨x0, x1, x2, x3, x4⟩ := bx5 (BX.out _ (hr0.trans kk)); obtain ⟨u0, u1, u2⟩ := HC.out _ (ka.out.trans (hr0.trans kk)); go_simp; first | done | with_reducible rfl)
  try simp only [Act.put, List.setIfInBounds_toArray, List.set_cons_zero, List.set_cons_succ]
  refine' Reg.wpG_take (i := 11) (oi := { dst := some 94, op := Op.indexAddr 23 (Operand.tmp 93) (Operand.const (Value.int IntKind.i64 2)), type := 0, pos := "kinds.go:27", after := #[{ on := 10, ground := Ground.data }], guard := none }) (v := _) [12, 13, 14] [] rfl rfl (by kernel_rfl) (by kernel_rfl) (by kernel_rfl) (by kernel_rfl) (by kernel_rfl) (by kernel_rfl) (by kernel_rfl) (fun _ _ _ h => h) (Or.inl ⟨by rfl, Or.inl ?hy85⟩) ?rest85
  case hy85 => (intro w' kk ss; obtain ⟨x0, x1, x2, x3, x4⟩ := bx5 (BX.out _ (hr0.trans kk)); obtain ⟨u0, u1, u2⟩ := HC.out _ (ka.out.trans (hr0.trans kk)); go_simp; first | done | with_reducible rfl)
  try simp only [Act.put, List.setIfInBounds_toArray, List.set_cons_zero, List.set_cons_succ]
  refine' Reg.wpG_take (i := 12) (oi := { dst := some 95, op := Op.load 2 (Operand.tmp 94), type := 2, pos := "kinds.go:27", after := #[{ on := 11, ground := Ground.data }], guard := none }) (v := _) [13, 14] [] rfl rfl (by kernel_rfl) (by kernel_rfl) (by kernel_rfl) (by kernel_rfl) (by kernel_rfl) (by kernel_rfl) (by kernel_rfl) (fun _ _ _ h => h) (Or.inl ⟨by rfl, Or.inl ?hy86⟩) ?rest86
  case hy86 => (intro w' kk ss; obtain ⟨x0, x1, x2, x3, x4⟩ := bx5 (BX.out _ (hr0.trans kk)); obtain ⟨u0, u1, u2⟩ := HC.out _ (ka.out.trans (hr0.trans kk)); go_simp; first | done | with_reducible rfl)
  try simp only [Act.put, List.setIfInBounds_toArray, List.set_cons_zero, List.set_cons_succ]
  refine' Reg.wpG_take (i := 13) (oi := { dst := some 96, op := Op.binOp BinOp.eql 2 (Operand.tmp 91) (Operand.tmp 95) 2, type := 4, pos := "kinds.go:27", after := #[{ on := 8, ground := Ground.data }, { on := 12, ground := Ground.data }], guard := none }) (v := _) [14] [] rfl rfl (by kernel_rfl) (by kernel_rfl) (by kernel_rfl) (by kernel_rfl) (by kernel_rfl) (by kernel_rfl) (by kernel_rfl) (fun _ _ _ h => h) (Or.inl ⟨by rfl, Or.inl ?hy87⟩) ?rest87
  case hy87 => (intro w' kk ss; obtain ⟨x0, x1, x2, x3, x4⟩ := bx5 (BX.out _ (hr0.trans kk)); obtain ⟨u0, u1, u2⟩ := HC.out _ (ka.out.trans (hr0.trans kk)); go_simp; first | done | with_reducible rfl)
  try simp only [Act.put, List.setIfInBounds_toArray, List.set_cons_zero, List.set_cons_succ]
  refine' Reg.wpG_take (i := 14) (oi := { dst := some 2, op := Op.assign (Operand.tmp 96), type := 4, pos := "kinds.go:27", after := #[{ on := 13, ground := Ground.data }, { on := 0, ground := Ground.phase }, { on := 1, ground := Ground.phase }, { on := 2, ground := Ground.phase }, { on := 3, ground := Ground.phase }, { on := 4, ground := Ground.phase }, { on := 5, ground := Ground.phase }, { on := 6, ground := Ground.phase }, { on := 7, ground := Ground.phase }, { on := 8, ground := Ground.phase }, { on := 9, ground := Ground.phase }, { on := 10, ground := Ground.phase }, { on := 11, ground := Ground.phase }, { on := 12, ground := Ground.phase }, { on := 13, ground := Ground.phase }], guard := none }) (v := _) [] [] rfl rfl (by kernel_rfl) (by kernel_rfl) (by kernel_rfl) (by kernel_rfl) (by kernel_rfl) (by kernel_rfl) (by kernel_rfl) (fun _ _ _ h => h) (Or.inl ⟨by rfl, Or.inl ?hy88⟩) ?rest88
  case hy88 => (intro w' kk ss; obtain ⟨x0, x1, x2, x3, x4⟩ := bx5 (BX.out _ (hr0.trans kk)); obtain ⟨u0, u1, u2⟩ := HC.out _ (ka.out.trans (hr0.trans kk)); go_simp; first | done | with_reducible rfl)
  try simp only [Act.put, List.setIfInBounds_toArray, List.set_cons_zero, List.set_cons_succ]
  refine Reg.wpG_done (by kernel_rfl) (fun we ke se => ?_) _
  refine NoPanic.normal ?_
  have hr0 := hr0.trans ke
  clear ke
  go_wp2
  all_goals go_ret
  all_goals exact RetT.of (by congr 1 <;> omega) (ka.out.trans hr0)
set_option maxRecDepth 20000 in
set_option maxHeartbeats 4000000 in
theorem holds_k9 (u : Value) (x a : List Int) (c : Int) (v : List Int) (w : World) (h : PlAt w u 9 x a c v) (hv : v.all within = true) (hn : v.length = 3) :
    Calls Try.prog 65 #[u] w (RetT (max (v.getD 0 0) (v.getD 1 0) == v.getD 2 0) w) := by
  have hb0 := fits_at hv (i := 0) (by omega)
  have hb1 := fits_at hv (i := 1) (by omega)
  have hb2 := fits_at hv (i := 2) (by omega)
  obtain ⟨X, xc, Y, yc, V, vc, rfl, h1, h2, h3⟩ := h
  rw [hn] at h3 ⊢
  obtain ⟨b, o, rfl, e0⟩ := getI h3 0 (by omega)
  obtain ⟨b1, o1, g1, e1⟩ := getI h3 1 (by omega)
  simp only [Option.some.injEq, Addr.mk.injEq, and_true] at g1
  obtain ⟨rfl, rfl⟩ := g1
  obtain ⟨b2, o2, g2, e2⟩ := getI h3 2 (by omega)
  simp only [Option.some.injEq, Addr.mk.injEq, and_true] at g2
  obtain ⟨rfl, rfl⟩ := g2
  simp only [Nat.add_zero] at e0
  generalize v.getD 0 0 = p at *
  generalize v.getD 1 0 = q at *
  generalize v.getD 2 0 = r at *
  generalize x.length = nx at *
  generalize a.length = na at *
  have HC := Lib.hid (fun W (kk : Since w W) => (show W.cell? ⟨b, o, none⟩ = some (.int .i64 p) ∧ W.cell? ⟨b, o + 1, none⟩ = some (.int .i64 q) ∧ W.cell? ⟨b, o + 2, none⟩ = some (.int .i64 r) from ⟨(kk.cell _ (World.block_lt_of_cell? _ _ e0)).trans e0, (kk.cell _ (World.block_lt_of_cell? _ _ e1)).trans e1, (kk.cell _ (World.block_lt_of_cell? _ _ e2)).trans e2⟩))
  clear h1 h2 h3 hv hn e0 e1 e2
  have ka := Lib.hid (since_alloc w (.cells #[.int .i64 9, .slice X nx xc, .slice Y na yc, .int .i64 c, .slice (some ⟨b, o, none⟩) 3 vc] 73))
  have BX := Lib.hid (fun W (kk : Since (w.alloc (.cells #[.int .i64 9, .slice X nx xc, .slice Y na yc, .int .i64 c, .slice (some ⟨b, o, none⟩) 3 vc] 73)) W) => (Bx.fresh w #[.int .i64 9, .slice X nx xc, .slice Y na yc, .int .i64 c, .slice (some ⟨b, o, none⟩) 3 vc] 73).since kk)
  go_enter Try.func65, Try.ntmps65
  go_wp2
  obtain ⟨W0, hW0⟩ : ∃ W0, W0 = w.alloc (.cells #[.int .i64 9, .slice X nx xc, .slice Y na yc, .int .i64 c, .slice (some ⟨b, o, none⟩) 3 vc] 73) := ⟨_, rfl⟩
  rw [← hW0]
  rw [← hW0] at ka BX
  clear hW0
  have hr0 : Since W0 W0.drew := Since.drew (Since.refl W0)
  refine wp_region_noPanic ?_
  refine Reg.wp_region_G (S := fun _ => True) (fun j => [].contains j) (by kernel_rfl) trivial ?_
  refine' Reg.wpG_take (i := 0) (oi := { dst := some 99, op := Op.fieldAddr 73 (Operand.tmp 1) 1, type := 0, pos := "kinds.go:29", after := #[], guard := none }) (v := _) [1, 2, 3, 8, 13, 14] [] rfl rfl (by kernel_rfl) (by kernel_rfl) (by kernel_rfl) (by kernel_rfl) (by kernel_rfl) (by kernel_rfl) (by kernel_rfl) (fun _ _ _ h => h) (Or.inl ⟨by rfl, Or.inl ?hy90⟩) ?rest90
  case hy90 => (intro w' kk ss; obtain ⟨x0, x1, x2, x3, x4⟩ := bx5 (BX.out _ (hr0.trans kk)); obtain ⟨u0, u1, u2⟩ := HC.out _ (ka.out.trans (hr0.trans kk)); go_simp; first | done | with_reducible rfl)
  try simp only [Act.put, List.setIfInBounds_toArray, List.set_cons_zero, List.set_cons_succ]
  refine' Reg.wpG_take (i := 1) (oi := { dst := some 100, op := Op.load 23 (Operand.tmp 99), type := 23, pos := "kinds.go:29", after := #[{ on := 0, ground := Ground.data }], guard := none }) (v := _) [2, 3, 8, 13, 14] [] rfl rfl (by kernel_rfl) (by kernel_rfl) (by kernel_rfl) (by kernel_rfl) (by kernel_rfl) (by kernel_rfl) (by kernel_rfl) (fun _ _ _ h => h) (Or.inl ⟨by rfl, Or.inl ?hy91⟩) ?rest91
  case hy91 => (intro w' kk ss; obtain ⟨x0, x1, x2, x3, x4⟩ := bx5 (BX.out _ (hr0.trans kk)); obtain ⟨u0, u1, u2⟩ := HC.out _ (ka.out.trans (hr0.trans kk)); go_simp; first | done | with_reducible rfl)
  try simp only [Act.put, List.setIfInBounds_toArray, List.set_cons_zero, List.set_cons_succ]
  refine' Reg.wpG_take (i := 2) (oi := { dst := some 101, op := Op.indexAddr 23 (Operand.tmp 100) (Operand.const (Value.int IntKind.i64 0)), type := 0, pos := "kinds.go:29", after := #[{ on := 1, ground := Ground.data }], guard := none }) (v := _) [3, 8, 13, 14] [] rfl rfl (by kernel_rfl) (by kernel_rfl) (by kernel_rfl) (by kernel_rfl) (by kernel_rfl) (by kernel_rfl) (by kernel_rfl) (fun _ _ _ h => h) (Or.inl ⟨by rfl, Or.inl ?hy92⟩) ?rest92
  case hy92 => (intro w' kk ss; obtain ⟨x0, x1, x2, x3, x4⟩ := bx5 (BX.out _ (hr0.trans kk)); obtain ⟨u0, u1, u2⟩ := HC.out _ (ka.out.trans (hr0.trans kk)); go_simp; first | done | with_reducible rfl)
  try simp only [Act.put, List.setIfInBounds_toArray, List.set_cons_zero, List.set_cons_succ]
  refine' Reg.wpG_take (i := 3) (oi := { dst := some 102, op := Op.load 2 (Operand.tmp 101), type := 2, pos := "kinds.go:29", after := #[{ on := 2, ground := Ground.data }], guard := none }) (v := _) [8, 13, 14] [] rfl rfl (by kernel_rfl) (by kernel_rfl) (by kernel_rfl) (by kernel_rfl) (by kernel_rfl) (by kernel_rfl) (by kernel_rfl) (fun _ _ _ h => h) (Or.inl ⟨by rfl, Or.inl ?hy93⟩) ?rest93
  case hy93 => (intro w' kk ss; obtain ⟨x0, x1, x2, x3, x4⟩ := bx5 (BX.out _ (hr0.trans kk)); obtain ⟨u0, u1, u2⟩ := HC.out _ (ka.out.trans (hr0.trans kk)); go_simp; first | done | with_reducible rfl)
  try simp only [Act.put, List.setIfInBounds_toArray, List.set_cons_zero, List.set_cons_succ]
  refine' Reg.wpG_take (i := 4) (oi := { dst := some 103, op := Op.fieldAddr 73 (Operand.tmp 1) 1, type := 0, pos := "kinds.go:29", after := #[], guard := none }) (v := _) [5, 6, 7, 8, 13, 14] [] rfl rfl (by kernel_rfl) (by kernel_rfl) (by kernel_rfl) (by kernel_rfl) (by kernel_rfl) (by kernel_rfl) (by kernel_rfl) (fun _ _ _ h => h) (Or.inl ⟨by rfl, Or.inl ?hy94⟩) ?rest94
  case hy94 => (intro w' kk ss; obtain ⟨x0, x1, x2, x3, x4⟩ := bx5 (BX.out _ (hr0.trans kk)); obtain ⟨u0, u1, u2⟩ := HC.out _ (ka.out.trans (hr0.trans kk)); go_simp; first | done | with_reducible rfl)
  try simp only [Act.put, List.setIfInBounds_toArray, List.set_cons_zero, List.set_cons_succ]
  refine' Reg.wpG_take (i := 5) (oi := { dst := some 104, op := Op.load 23 (Operand.tmp 103), type := 23, pos := "kinds.go:29", after := #[{ on := 4, ground := Ground.data }], guard := none }) (v := _) [6, 7, 8, 13, 14] [] rfl rfl (by kernel_rfl) (by kernel_rfl) (by kernel_rfl) (by kernel_rfl) (by kernel_rfl) (by kernel_rfl) (by kernel_rfl) (fun _ _ _ h => h) (Or.inl ⟨by rfl, Or.inl ?hy95⟩) ?rest95
  case hy95 => (intro w' kk ss; obtain ⟨x0, x1, x2, x3, x4⟩ := bx5 (BX.out _ (hr0.trans kk)); obtain ⟨u0, u1, u2⟩ := HC.out _ (ka.out.trans (hr0.trans kk)); go_simp; first | done | with_reducible rfl)
  try simp only [Act.put, List.setIfInBounds_toArray, List.set_cons_zero, List.set_cons_succ]
  refine' Reg.wpG_take (i := 6) (oi := { dst := some 105, op := Op.indexAddr 23 (Operand.tmp 104) (Operand.const (Value.int IntKind.i64 1)), type := 0, pos := "kinds.go:29", after := #[{ on := 5, ground := Ground.data }], guard := none }) (v := _) [7, 8, 13, 14] [] rfl rfl (by kernel_rfl) (by kernel_rfl) (by kernel_rfl) (by kernel_rfl) (by kernel_rfl) (by kernel_rfl) (by kernel_rfl) (fun _ _ _ h => h) (Or.inl ⟨by rfl, Or.inl ?hy96⟩) ?rest96
  case hy96 => (intro w' kk ss; obtain ⟨x0, x1, x2, x3, x4⟩ := bx5 (BX.out _ (hr0.trans kk)); obtain ⟨u0, u1, u2⟩ := HC.out _ (ka.out.trans (hr0.trans kk)); go_simp; first | done | with_reducible rfl)
  try simp only [Act.put, List.setIfInBounds_toArray, List.set_cons_zero, List.set_cons_succ]
  refine' Reg.wpG_take (i := 7) (oi := { dst := some 106, op := Op.load 2 (Operand.tmp 105), type := 2, pos := "kinds.go:29", after := #[{ on := 6, ground := Ground.data }], guard := none }) (v := _) [8, 13, 14] [] rfl rfl (by kernel_rfl) (by kernel_rfl) (by kernel_rfl) (by kernel_rfl) (by kernel_rfl) (by kernel_rfl) (by kernel_rfl) (fun _ _ _ h => h) (Or.inl ⟨by rfl, Or.inl ?hy97⟩) ?rest97
  case hy97 => (intro w' kk ss; obtain ⟨x0, x1, x2, x3, x4⟩ := bx5 (BX.out _ (hr0.trans kk)); obtain ⟨u0, u1, u2⟩ := HC.out _ (ka.out.trans (hr0.trans kk)); go_simp; first | done | with_reducible rfl)
  try simp only [Act.put, List.setIfInBounds_toArray, List.set_cons_zero, List.set_cons_succ]
  refine' Reg.wpG_take (i := 8) (oi := { dst := some 107, op := Op.call { callee := Callee.builtin Builtin.max, args := #[Operand.tmp 102, Operand.tmp 106], argTypes := #[2, 2] }, type := 2, pos := "kinds.go:29", after := #[{ on := 3, ground := Ground.data }, { on := 7, ground := Ground.data }], guard := none }) (v := _) [13, 14] [] rfl rfl (by kernel_rfl) (by kernel_rfl) (by kernel_rfl) (by kernel_rfl) (by kernel_rfl) (by kernel_rfl) (by kernel_rfl) (fun _ _ _ h => h) (Or.inl ⟨by rfl, Or.inl ?hy98⟩) ?rest98
  case hy98 => (intro w' kk ss; obtain ⟨x0, x1, x2, x3, x4⟩ := bx5 (BX.out _ (hr0.trans kk)); obtain ⟨u0, u1, u2⟩ := HC.out _ (ka.out.trans (hr0.trans kk)); go_simp; first | done | with_reducible rfl)
  try simp only [Act.put, List.setIfInBounds_toArray, List.set_cons_zero, List.set_cons_succ]
  refine' Reg.wpG_take (i := 9) (oi := { dst := some 108, op := Op.fieldAddr 73 (Operand.tmp 1) 1, type := 0, pos := "kinds.go:29", after := #[], guard := none }) (v := _) [10, 11, 12, 13, 14] [] rfl rfl (by kernel_rfl) (by kernel_rfl) (by kernel_rfl) (by kernel_rfl) (by kernel_rfl) (by kernel_rfl) (by kernel_rfl) (fun _ _ _ h => h) (Or.inl ⟨by rfl, Or.inl ?hy99⟩) ?rest99
  case hy99 => (intro w' kk ss; obtain ⟨x0, x1, x2, x3, x4⟩ := bx5 (BX.out _ (hr0.trans kk)); obtain ⟨u0, u1, u2⟩ := HC.out _ (ka.out.trans (hr0.trans kk)); go_simp; first | done | with_reducible rfl)
  try simp only [Act.put, List.setIfInBounds_toArray, List.set_cons_zero, List.set_cons_succ]
  refine' Reg.wpG_take (i := 10) (oi := { dst := some 109, op := Op.load 23 (Operand.tmp 108), type := 23, pos := "kinds.go:29", after := #[{ on := 9, ground := Ground.data }], guard := none }) (v := _) [11, 12, 13, 14] [] rfl rfl (by kernel_rfl) (by kernel_rfl) (by kernel_rfl) (by kernel_rfl) (by kernel_rfl) (by kernel_rfl) (by kernel_rfl) (fun _ _ _ h => h) (Or.inl ⟨by rfl, Or.inl ?hy100⟩) ?rest100
  case hy100 => (intro w' kk ss; obtain ⟨x0, x1, x2, x3, x4⟩ := bx5 (BX.out _ (hr0.trans kk)); obtain ⟨u0, u1, u2⟩ := HC.out _ (ka.out.trans (hr0.trans kk)); go_simp; first | done | with_reducible rfl)
  try simp only [Act.put, List.setIfInBounds_toArray, List.set_cons_zero, List.set_cons_succ]
  refine' Reg.wpG_take (i := 11) (oi := { dst := some 110, op := Op.indexAddr 23 (Operand.tmp 109) (Operand.const (Value.int IntKind.i64 2)), type := 0, pos := "kinds.go:29", after := #[{ on := 10, ground := Ground.data }], guard := none }) (v := _) [12, 13, 14] [] rfl rfl (by kernel_rfl) (by kernel_rfl) (by kernel_rfl) (by kernel_rfl) (by kernel_rfl) (by kernel_rfl) (by kernel_rfl) (fun _ _ _ h => h) (Or.inl ⟨by rfl, Or.inl ?hy101⟩) ?rest101
  case hy101 => (intro w' kk ss; obtain ⟨x0, x1, x2, x3, x4⟩ := bx5 (BX.out _ (hr0.trans kk)); obtain ⟨u0, u1, u2⟩ := HC.out _ (ka.out.trans (hr0.trans kk)); go_simp; first | done | with_reducible rfl)
  try simp only [Act.put, List.setIfInBounds_toArray, List.set_cons_zero, List.set_cons_succ]
  refine' Reg.wpG_take (i := 12) (oi := { dst := some 111, op := Op.load 2 (Operand.tmp 110), type := 2, pos := "kinds.go:29", after := #[{ on := 11, ground := Ground.data }], guard := none }) (v := _) [13, 14] [] rfl rfl (by kernel_rfl) (by kernel_rfl) (by kernel_rfl) (by kernel_rfl) (by kernel_rfl) (by kernel_rfl) (by kernel_rfl) (fun _ _ _ h => h) (Or.inl ⟨by rfl, Or.inl ?hy102⟩) ?rest102
  case hy102 => (intro w' kk ss; obtain ⟨x0, x1, x2, x3, x4⟩ := bx5 (BX.out _ (hr0.trans kk)); obtain ⟨u0, u1, u2⟩ := HC.out _ (ka.out.trans (hr0.trans kk)); go_simp; first | done | with_reducible rfl)
  try simp only [Act.put, List.setIfInBounds_toArray, List.set_cons_zero, List.set_cons_succ]
  refine' Reg.wpG_take (i := 13) (oi := { dst := some 112, op := Op.binOp BinOp.eql 2 (Operand.tmp 107) (Operand.tmp 111) 2, type := 4, pos := "kinds.go:29", after := #[{ on := 8, ground := Ground.data }, { on := 12, ground := Ground.data }], guard := none }) (v := _) [14] [] rfl rfl (by kernel_rfl) (by kernel_rfl) (by kernel_rfl) (by kernel_rfl) (by kernel_rfl) (by kernel_rfl) (by kernel_rfl) (fun _ _ _ h => h) (Or.inl ⟨by rfl, Or.inl ?hy103⟩) ?rest103
  case hy103 => (intro w' kk ss; obtain ⟨x0, x1, x2, x3, x4⟩ := bx5 (BX.out _ (hr0.trans kk)); obtain ⟨u0, u1, u2⟩ := HC.out _ (ka.out.trans (hr0.trans kk)); go_simp; first | done | with_reducible rfl)
  try simp only [Act.put, List.setIfInBounds_toArray, List.set_cons_zero, List.set_cons_succ]
  refine' Reg.wpG_take (i := 14) (oi := { dst := some 2, op := Op.assign (Operand.tmp 112), type := 4, pos := "kinds.go:29", after := #[{ on := 13, ground := Ground.data }, { on := 0, ground := Ground.phase }, { on := 1, ground := Ground.phase }, { on := 2, ground := Ground.phase }, { on := 3, ground := Ground.phase }, { on := 4, ground := Ground.phase }, { on := 5, ground := Ground.phase }, { on := 6, ground := Ground.phase }, { on := 7, ground := Ground.phase }, { on := 8, ground := Ground.phase }, { on := 9, ground := Ground.phase }, { on := 10, ground := Ground.phase }, { on := 11, ground := Ground.phase }, { on := 12, ground := Ground.phase }, { on := 13, ground := Ground.phase }], guard := none }) (v := _) [] [] rfl rfl (by kernel_rfl) (by kernel_rfl) (by kernel_rfl) (by kernel_rfl) (by kernel_rfl) (by kernel_rfl) (by kernel_rfl) (fun _ _ _ h => h) (Or.inl ⟨by rfl, Or.inl ?hy104⟩) ?rest104
  case hy104 => (intro w' kk ss; obtain ⟨x0, x1, x2, x3, x4⟩ := bx5 (BX.out _ (hr0.trans kk)); obtain ⟨u0, u1, u2⟩ := HC.out _ (ka.out.trans (hr0.trans kk)); go_simp; first | done | with_reducible rfl)
  try simp only [Act.put, List.setIfInBounds_toArray, List.set_cons_zero, List.set_cons_succ]
  refine Reg.wpG_done (by kernel_rfl) (fun we ke se => ?_) _
  refine NoPanic.normal ?_
  have hr0 := hr0.trans ke
  clear ke
  go_wp2
  all_goals go_ret
  all_goals exact RetT.of (by congr 1 <;> omega) (ka.out.trans hr0)
end Go.Proofs.Ytakfabaocgbbmaa.Sn
