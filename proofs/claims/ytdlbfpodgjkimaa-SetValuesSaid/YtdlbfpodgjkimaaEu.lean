/- Layer 9 (set): the landed joined: what touches or overlaps, in a list that is sorted. -/
import Derived.Test.YtdlbfpodgjkimaaEp
import Derived.Test.YtdlbfpodgjkimaaEk
namespace Go.Proofs.Ytdlbfpodgjkimaa.Zs
open Go.RowKit
set_option linter.unusedVariables false
set_option linter.unusedSimpArgs false
open Go.Proofs.Ytdlbfpodgjkimaa.Dig Go.Proofs.Ytdlbfpodgjkimaa.Lx Go.Proofs.Ytdlbfpodgjkimaa.Tk Go.Proofs.Ytdlbfpodgjkimaa.Ti

theorem rcells_set (pre : List Rn) (c : Rn) (z : Int) (m : Nat) (hm : pre.length = m) : (rcells (pre ++ [c])).set (m * 2 + 1) (.int .i64 z) = rcells (pre ++ [(c.1, z)]) := by
  subst hm
  induction pre with
  | nil => rfl
  | cons r l ih =>
    have e : ∀ l : List Rn, rcells (r :: l) = .int .i64 r.1 :: .int .i64 r.2 :: rcells l := fun _ => rfl
    rw [List.cons_append, e, List.cons_append, e, List.length_cons, show (l.length + 1) * 2 + 1 = l.length * 2 + 1 + 1 + 1 by omega, List.set_cons_succ, List.set_cons_succ, ih]
theorem rcells_last (pre : List Rn) (c : Rn) (m : Nat) (hm : pre.length = m) : (rcells (pre ++ [c]))[m * 2 + 1]? = some (.int .i64 c.2) := by
  subst hm
  induction pre with
  | nil => rfl
  | cons r l ih =>
    have e : ∀ l : List Rn, rcells (r :: l) = .int .i64 r.1 :: .int .i64 r.2 :: rcells l := fun _ => rfl
    rw [List.cons_append, e, List.length_cons, show (l.length + 1) * 2 + 1 = l.length * 2 + 1 + 1 + 1 by omega, List.getElem?_cons_succ, List.getElem?_cons_succ, ih]
/-- a store to the last range's greatest value -/
theorem Rw.last {w0 w : World} {g m d : Nat} {pre : List Rn} {c : Rn} (H : Rw w0 w (.slice (some ⟨g, 0, none⟩) (m + 1) d) (pre ++ [c])) (hm : pre.length = m) (z : Int) : Rw w0 (w.setCell ⟨g, m * 2 + 1, none⟩ (.int .i64 z)) (.slice (some ⟨g, 0, none⟩) (m + 1) d) (pre ++ [(c.1, z)]) := by
  have hl : (pre ++ [c]).length = m + 1 := by rw [List.length_append, hm]; rfl
  have hl2 : (pre ++ [(c.1, z)]).length = m + 1 := by rw [List.length_append, hm]; rfl
  have H1 := H.1
  rw [hl] at H1
  obtain ⟨a, b⟩ := H1.stored (m * 2 + 1) (.int .i64 z)
  rw [rcells_set pre c z m hm] at a
  exact ⟨by rw [hl2]; exact a, Below.grown H.2 b H.2.size (fun j hj => by cases hj; exact (H1.lt _ rfl).1)⟩
/-- where things stand -/
def At (R l : List Rn) (k : Nat) (xs : List Rn) : Prop := (k = 0 ∧ xs = [] ∧ joinL l = R) ∨ ∃ pre c, xs = pre ++ [c] ∧ pre ++ uni c (l.drop k) = R ∧ -1048576 ≤ c.2 ∧ c.2 ≤ 1048576
theorem At.first {R l : List Rn} {r : Rn} (h : joinL l = R) (hr : l.drop 0 = r :: l.drop 1) (h1 : -1048576 ≤ r.2) (h2 : r.2 ≤ 1048576) : At R l 1 ([] ++ [r]) := by
  refine .inr ⟨[], r, rfl, ?_, h1, h2⟩
  rw [List.drop_zero] at hr
  rw [← h]
  conv => rhs; rw [hr]
  rfl
theorem At.more {R l pre : List Rn} {c r : Rn} {k : Nat} (h : pre ++ uni c (l.drop k) = R) (hr : l.drop k = r :: l.drop (k + 1)) (hc : ¬ r.1 ≤ c.2 + 1) (h1 : -1048576 ≤ r.2) (h2 : r.2 ≤ 1048576) : At R l (k + 1) (pre ++ [c] ++ [r]) := by
  refine .inr ⟨pre ++ [c], r, rfl, ?_, h1, h2⟩
  rw [hr, uni, if_neg hc] at h
  rw [List.append_assoc]; exact h
theorem At.same {R l pre : List Rn} {c r : Rn} {k : Nat} (h : pre ++ uni c (l.drop k) = R) (hr : l.drop k = r :: l.drop (k + 1)) (hc : r.1 ≤ c.2 + 1) (z : Int) (hz : z = max c.2 r.2) (h1 : -1048576 ≤ z) (h2 : z ≤ 1048576) : At R l (k + 1) (pre ++ [(c.1, z)]) := by
  subst hz
  refine .inr ⟨pre, (c.1, max c.2 r.2), rfl, ?_, h1, h2⟩
  rw [hr, uni, if_pos hc] at h
  exact h
theorem At.end_ {R l xs : List Rn} (h : At R l l.length xs) : xs = R := by
  rcases h with ⟨h0, rfl, h⟩ | ⟨pre, c, rfl, h, -⟩
  · have : l = [] := List.eq_nil_of_length_eq_zero h0
    subst this
    exact h
  · rw [List.drop_length] at h; exact h
set_option maxRecDepth 20000 in
set_option maxHeartbeats 4000000 in
theorem joined_any (v : Value) (l : List Rn) (w : World) (h : Sl 2 QR w v l) (hl : l.length ≤ 100000) (hf : full l) :
    Calls Try.prog 35 #[v] w (RetS (joinL l) w) := by
  obtain ⟨A, c, rfl⟩ := h.form
  obtain ⟨R, hR⟩ : ∃ R, R = joinL l := ⟨_, rfl⟩
  rw [← hR]
  obtain ⟨n, hn⟩ : ∃ n, n = l.length := ⟨_, rfl⟩
  rw [← hn] at h hl ⊢
  have H := Lib.hid h
  have HN := Lib.hid hn
  have HR := Lib.hid hR
  have HF := Lib.hid hf
  clear h hn hR hf
  go_enter Try.func35, Try.ntmps35
  go_wp2
  go_loopw [3, 9] (fun s i wr => ∃ (k : Nat) (A : Option Addr) (m c : Nat) (xs : List Rn), i = .int .i64 (k : Int) ∧ s = .slice A m c ∧ k ≤ n ∧ m ≤ k ∧ Hid (xs.length = m) ∧ Hid (Rw w wr (.slice A m c) xs) ∧ Hid (At R l k xs)) (fun _ i _ => n - (intOf i).toNat)
  case atStart => exact ⟨0, none, 0, 0, [], rfl, rfl, Nat.zero_le _, Nat.le_refl _, rfl, .nil (Since.refl _), .inl ⟨rfl, rfl, HR.out.symm⟩⟩
  case round =>
    obtain ⟨k, A2, m, d2, xs, rfl, rfl, hk, hm, HX, HW, HE⟩ := hrel
    by_cases hkn : k < n
    · have hkl : k < l.length := by have := HN.out; omega
      obtain ⟨g, o, rfl, e0, e1⟩ := elR (H.out.since stR HW.out.2) hkl
      have hdr := drop_at hkl
      have hbz := HF.out l[k] (List.getElem_mem hkl)
      generalize l[k] = y at *
      obtain ⟨lo, hi⟩ := y
      simp only [mx] at e0 e1 hbz
      have DR := Lib.hid hdr
      obtain ⟨W1, hW1⟩ : ∃ W1, W1 = wr.alloc (.cells #[.int .i64 lo, .int .i64 hi] 32) := ⟨_, rfl⟩
      have ka := Lib.hid (show Since wr W1 by rw [hW1]; exact since_alloc _ _)
      have HD := Lib.hid (show Bx W1 wr.heap.size #[.int .i64 lo, .int .i64 hi] 32 by rw [hW1]; exact Bx.fresh _ _ _)
      have HG := Lib.hid hW1
      have WB := Lib.hid (HW.out.since ka.out)
      obtain ⟨r0, r1⟩ := (Bx.fresh wr #[.int .i64 lo, .int .i64 hi] 32).two
      have hgs : (wr.alloc (.cells #[.int .i64 lo, .int .i64 hi] 32)).heap.size = wr.heap.size + 1 := by simp
      clear hdr hkl hW1
      by_cases hm0 : m = 0
      · subst hm0
        have hx : xs = [] := List.eq_nil_of_length_eq_zero HX.out
        subst hx
        have hk0 : k = 0 ∧ joinL l = R := by
          rcases HE.out with ⟨a, -, b⟩ | ⟨pre, c, a, -⟩
          · exact ⟨a, b⟩
          · simp at a
        obtain ⟨rfl, hj⟩ := hk0
        have HE2 := Lib.hid (At.first hj DR.out (show (-1048576 : Int) ≤ (lo, hi).2 by simp only; omega) (by simp only; omega))
        simp only [Nat.zero_mul, Nat.add_zero] at e0 e1
        clear HE hj
        go_wp2
        rw [← HG.out]
        have hr0 : Since W1 W1.drew := Since.drew (Since.refl W1)
        refine wp_region_noPanic ?_
        refine Reg.wp_region_G (S := fun _ => True) (fun j => [].contains j) (by kernel_rfl) trivial ?_
        refine' Reg.wpG_take (i := 0) (oi := { dst := some 16, op := Op.move (Operand.tmp 6), type := 3, pos := "set.go:45", after := #[], guard := none }) (v := _) [1, 2, 3, 4, 5, 6, 7, 8, 9, 10, 11, 12] [] rfl rfl (by kernel_rfl) (by kernel_rfl) (by kernel_rfl) (by kernel_rfl) (by kernel_rfl) (by kernel_rfl) (by kernel_rfl) (fun _ _ _ h => h) (Or.inl ⟨by rfl, Or.inl ?hy1⟩) ?rest1
        case hy1 => (intro w' kk ss; obtain ⟨z0, z1⟩ := (HD.out.since (hr0.trans kk)).two; go_simp; first | done | with_reducible rfl)
        try simp only [Act.put, List.setIfInBounds_toArray, List.set_cons_zero, List.set_cons_succ]
        refine' Reg.wpG_take (i := 1) (oi := { dst := some 17, op := Op.binOp BinOp.geq 3 (Operand.tmp 16) (Operand.const (Value.int IntKind.i64 0)) 3, type := 4, pos := "set.go:45", after := #[{ on := 0, ground := Ground.data }], guard := none }) (v := _) [2, 3, 4, 5, 6, 7, 8, 9, 10, 11, 12] [] rfl rfl (by kernel_rfl) (by kernel_rfl) (by kernel_rfl) (by kernel_rfl) (by kernel_rfl) (by kernel_rfl) (by kernel_rfl) (fun _ _ _ h => h) (Or.inl ⟨by rfl, Or.inl ?hy2⟩) ?rest2
        case hy2 => (intro w' kk ss; obtain ⟨z0, z1⟩ := (HD.out.since (hr0.trans kk)).two; go_simp; first | done | with_reducible rfl)
        try simp only [Act.put, List.setIfInBounds_toArray, List.set_cons_zero, List.set_cons_succ]
        refine' Reg.wpG_take (i := 2) (oi := { dst := some 18, op := Op.move (Operand.tmp 17), type := 4, pos := "set.go:45", after := #[{ on := 1, ground := Ground.data }], guard := none }) (v := _) [3, 4, 5, 6, 7, 8, 9, 10, 11, 12] [] rfl rfl (by kernel_rfl) (by kernel_rfl) (by kernel_rfl) (by kernel_rfl) (by kernel_rfl) (by kernel_rfl) (by kernel_rfl) (fun _ _ _ h => h) (Or.inl ⟨by rfl, Or.inl ?hy3⟩) ?rest3
        case hy3 => (intro w' kk ss; obtain ⟨z0, z1⟩ := (HD.out.since (hr0.trans kk)).two; go_simp; first | done | with_reducible rfl)
        try simp only [Act.put, List.setIfInBounds_toArray, List.set_cons_zero, List.set_cons_succ]
        refine Reg.wpG_take (i := 3) (oi := { dst := some 19, op := Op.fieldAddr 32 (Operand.tmp 5) 0, type := 0, pos := "set.go:45", after := #[{ on := 2, ground := Ground.guard }], guard := some (2, true) }) (v := undef) [4, 11, 12] [] rfl rfl (by kernel_rfl) (by kernel_rfl) (by kernel_rfl) (by kernel_rfl) (by kernel_rfl) (by kernel_rfl) (by kernel_rfl) (fun _ _ _ h => h) (Or.inr ⟨by rfl, rfl⟩) ?_
        try simp only [Act.put, List.setIfInBounds_toArray, List.set_cons_zero, List.set_cons_succ]
        refine Reg.wpG_take (i := 4) (oi := { dst := some 20, op := Op.load 2 (Operand.tmp 19), type := 2, pos := "set.go:45", after := #[{ on := 3, ground := Ground.data }, { on := 2, ground := Ground.guard }], guard := some (2, true) }) (v := undef) [11, 12] [] rfl rfl (by kernel_rfl) (by kernel_rfl) (by kernel_rfl) (by kernel_rfl) (by kernel_rfl) (by kernel_rfl) (by kernel_rfl) (fun _ _ _ h => h) (Or.inr ⟨by rfl, rfl⟩) ?_
        try simp only [Act.put, List.setIfInBounds_toArray, List.set_cons_zero, List.set_cons_succ]
        refine Reg.wpG_take (i := 5) (oi := { dst := some 21, op := Op.move (Operand.tmp 3), type := 22, pos := "set.go:45", after := #[{ on := 2, ground := Ground.guard }], guard := some (2, true) }) (v := undef) [7, 8, 9, 10, 11, 12] [] rfl rfl (by kernel_rfl) (by kernel_rfl) (by kernel_rfl) (by kernel_rfl) (by kernel_rfl) (by kernel_rfl) (by kernel_rfl) (fun _ _ _ h => h) (Or.inr ⟨by rfl, rfl⟩) ?_
        try simp only [Act.put, List.setIfInBounds_toArray, List.set_cons_zero, List.set_cons_succ]
        refine Reg.wpG_take (i := 6) (oi := { dst := some 22, op := Op.move (Operand.tmp 6), type := 3, pos := "set.go:45", after := #[{ on := 2, ground := Ground.guard }], guard := some (2, true) }) (v := undef) [7, 8, 9, 10, 11, 12] [] rfl rfl (by kernel_rfl) (by kernel_rfl) (by kernel_rfl) (by kernel_rfl) (by kernel_rfl) (by kernel_rfl) (by kernel_rfl) (fun _ _ _ h => h) (Or.inr ⟨by rfl, rfl⟩) ?_
        try simp only [Act.put, List.setIfInBounds_toArray, List.set_cons_zero, List.set_cons_succ]
        refine Reg.wpG_take (i := 7) (oi := { dst := some 23, op := Op.indexAddr 22 (Operand.tmp 21) (Operand.tmp 22), type := 0, pos := "set.go:45", after := #[{ on := 5, ground := Ground.data }, { on := 6, ground := Ground.data }, { on := 2, ground := Ground.guard }], guard := some (2, true) }) (v := undef) [8, 9, 10, 11, 12] [] rfl rfl (by kernel_rfl) (by kernel_rfl) (by kernel_rfl) (by kernel_rfl) (by kernel_rfl) (by kernel_rfl) (by kernel_rfl) (fun _ _ _ h => h) (Or.inr ⟨by rfl, rfl⟩) ?_
        try simp only [Act.put, List.setIfInBounds_toArray, List.set_cons_zero, List.set_cons_succ]
        refine Reg.wpG_take (i := 8) (oi := { dst := some 24, op := Op.fieldAddr 32 (Operand.tmp 23) 1, type := 0, pos := "set.go:45", after := #[{ on := 7, ground := Ground.data }, { on := 2, ground := Ground.guard }], guard := some (2, true) }) (v := undef) [9, 10, 11, 12] [] rfl rfl (by kernel_rfl) (by kernel_rfl) (by kernel_rfl) (by kernel_rfl) (by kernel_rfl) (by kernel_rfl) (by kernel_rfl) (fun _ _ _ h => h) (Or.inr ⟨by rfl, rfl⟩) ?_
        try simp only [Act.put, List.setIfInBounds_toArray, List.set_cons_zero, List.set_cons_succ]
        refine Reg.wpG_take (i := 9) (oi := { dst := some 25, op := Op.load 2 (Operand.tmp 24), type := 2, pos := "set.go:45", after := #[{ on := 8, ground := Ground.data }, { on := 2, ground := Ground.guard }], guard := some (2, true) }) (v := undef) [10, 11, 12] [] rfl rfl (by kernel_rfl) (by kernel_rfl) (by kernel_rfl) (by kernel_rfl) (by kernel_rfl) (by kernel_rfl) (by kernel_rfl) (fun _ _ _ h => h) (Or.inr ⟨by rfl, rfl⟩) ?_
        try simp only [Act.put, List.setIfInBounds_toArray, List.set_cons_zero, List.set_cons_succ]
        refine Reg.wpG_take (i := 10) (oi := { dst := some 26, op := Op.binOp BinOp.add 2 (Operand.tmp 25) (Operand.const (Value.int IntKind.i64 1)) 2, type := 2, pos := "set.go:45", after := #[{ on := 9, ground := Ground.data }, { on := 2, ground := Ground.guard }], guard := some (2, true) }) (v := undef) [11, 12] [] rfl rfl (by kernel_rfl) (by kernel_rfl) (by kernel_rfl) (by kernel_rfl) (by kernel_rfl) (by kernel_rfl) (by kernel_rfl) (fun _ _ _ h => h) (Or.inr ⟨by rfl, rfl⟩) ?_
        try simp only [Act.put, List.setIfInBounds_toArray, List.set_cons_zero, List.set_cons_succ]
        refine Reg.wpG_take (i := 11) (oi := { dst := some 27, op := Op.binOp BinOp.leq 2 (Operand.tmp 20) (Operand.tmp 26) 2, type := 4, pos := "set.go:45", after := #[{ on := 4, ground := Ground.data }, { on := 10, ground := Ground.data }, { on := 2, ground := Ground.guard }], guard := some (2, true) }) (v := undef) [12] [] rfl rfl (by kernel_rfl) (by kernel_rfl) (by kernel_rfl) (by kernel_rfl) (by kernel_rfl) (by kernel_rfl) (by kernel_rfl) (fun _ _ _ h => h) (Or.inr ⟨by rfl, rfl⟩) ?_
        try simp only [Act.put, List.setIfInBounds_toArray, List.set_cons_zero, List.set_cons_succ]
        refine' Reg.wpG_take (i := 12) (oi := { dst := some 28, op := Op.pick (Operand.tmp 18) (Operand.tmp 27) (Operand.const (Value.bool false)), type := 4, pos := "set.go:45", after := #[{ on := 2, ground := Ground.data }, { on := 11, ground := Ground.data }], guard := none }) (v := _) [] [] rfl rfl (by kernel_rfl) (by kernel_rfl) (by kernel_rfl) (by kernel_rfl) (by kernel_rfl) (by kernel_rfl) (by kernel_rfl) (fun _ _ _ h => h) (Or.inl ⟨by rfl, Or.inl ?hy4⟩) ?rest4
        case hy4 => (intro w' kk ss; obtain ⟨z0, z1⟩ := (HD.out.since (hr0.trans kk)).two; go_simp; first | done | with_reducible rfl)
        try simp only [Act.put, List.setIfInBounds_toArray, List.set_cons_zero, List.set_cons_succ]
        refine Reg.wpG_done (by kernel_rfl) (fun w6 ke se => ?_) _
        refine NoPanic.normal ?_
        have hr0 := hr0.trans ke
        clear ke
        have WB6 := Lib.hid (WB.out.since hr0)
        obtain ⟨z0, z1⟩ := (HD.out.since hr0).two
        clear hr0
        go_wp2_with (at_builtin; refine wpList_app (WB6.out.since (since_alloc _ _)) (by simp) (lo, hi) w6.heap.size 1 (Bx.fresh w6 _ _).two.1 (Bx.fresh w6 _ _).two.2 (by rfl) _ _ rfl rfl rfl ?_; intro A3 c3 w3 h3 _)
        go_roundw
        case rel => exact ⟨1, A3, 1, c3, _, by go_num, rfl, by omega, by omega, (show ([] ++ [(lo, hi)] : List Rn).length = 1 from rfl), h3, HE2.out⟩
        case measure => simp [intOf]; omega
      · obtain ⟨m, rfl⟩ : ∃ j, m = j + 1 := ⟨m - 1, by omega⟩
        obtain ⟨pre, cc, hxs, hpu, hc1, hc2⟩ : ∃ pre c, xs = pre ++ [c] ∧ pre ++ uni c (l.drop k) = R ∧ -1048576 ≤ c.2 ∧ c.2 ≤ 1048576 := by
          rcases HE.out with ⟨-, a, -⟩ | h
          · have := HX.out; rw [a] at this; simp at this
          · exact h
        subst hxs
        have hpl : pre.length = m := by have := HX.out; simp at this; omega
        obtain ⟨gd, hgd⟩ : ∃ gd, A2 = some ⟨gd, 0, none⟩ := by
          have h1 := HW.out.1
          rcases h1.2 with ⟨e, -⟩ | ⟨gg, cap, cur, e, -⟩
          · injection e with _ e2; omega
          · injection e with e1; exact ⟨gg, e1⟩
        subst hgd
        have hll : (pre ++ [cc]).length = m + 1 := by rw [List.length_append, hpl]; rfl
        have HO := Lib.hid (show ∀ W, Since W1 W → W.cell? ⟨gd, m * 2 + 1, none⟩ = some (.int .i64 cc.2) ∧ W.frozen? ⟨gd, m * 2 + 1, none⟩ = false from fun W kk => by
          have h1 := (WB.out.since kk).1
          rw [hll] at h1
          exact ⟨by rw [h1.cellAt _ (by omega)]; exact rcells_last pre cc m hpl, h1.frozenAt _⟩)
        obtain ⟨c0, c1⟩ := cc
        simp only at hc1 hc2 HO
        have HPU := Lib.hid hpu
        have HPL := Lib.hid hpl
        have hwm := wrap_id (x := (m : Int)) (by omega) (by omega)
        have hwc := wrap_id (x := c1 + 1) (by omega) (by omega)
        have hm1 : (0 : Int) ≤ (m : Int) := by omega
        have hmm : (m : Int) < (m : Int) + 1 := by omega
        clear HE hpu hpl hll hm0
        go_wp2
        rw [← HG.out]
        have hr0 : Since W1 W1.drew := Since.drew (Since.refl W1)
        refine wp_region_noPanic ?_
        refine Reg.wp_region_G (S := fun _ => True) (fun j => [].contains j) (by kernel_rfl) trivial ?_
        refine' Reg.wpG_take (i := 0) (oi := { dst := some 16, op := Op.move (Operand.tmp 6), type := 3, pos := "set.go:45", after := #[], guard := none }) (v := _) [1, 2, 3, 4, 5, 6, 7, 8, 9, 10, 11, 12] [] rfl rfl (by kernel_rfl) (by kernel_rfl) (by kernel_rfl) (by kernel_rfl) (by kernel_rfl) (by kernel_rfl) (by kernel_rfl) (fun _ _ _ h => h) (Or.inl ⟨by rfl, Or.inl ?hy5⟩) ?rest5
        case hy5 => (intro w' kk ss; obtain ⟨z0, z1⟩ := (HD.out.since (hr0.trans kk)).two; obtain ⟨y0, y1⟩ := HO.out _ (hr0.trans kk); go_simp; first | done | with_reducible rfl)
        try simp only [Act.put, List.setIfInBounds_toArray, List.set_cons_zero, List.set_cons_succ]
        refine' Reg.wpG_take (i := 1) (oi := { dst := some 17, op := Op.binOp BinOp.geq 3 (Operand.tmp 16) (Operand.const (Value.int IntKind.i64 0)) 3, type := 4, pos := "set.go:45", after := #[{ on := 0, ground := Ground.data }], guard := none }) (v := _) [2, 3, 4, 5, 6, 7, 8, 9, 10, 11, 12] [] rfl rfl (by kernel_rfl) (by kernel_rfl) (by kernel_rfl) (by kernel_rfl) (by kernel_rfl) (by kernel_rfl) (by kernel_rfl) (fun _ _ _ h => h) (Or.inl ⟨by rfl, Or.inl ?hy6⟩) ?rest6
        case hy6 => (intro w' kk ss; obtain ⟨z0, z1⟩ := (HD.out.since (hr0.trans kk)).two; obtain ⟨y0, y1⟩ := HO.out _ (hr0.trans kk); go_simp; first | done | with_reducible rfl)
        try simp only [Act.put, List.setIfInBounds_toArray, List.set_cons_zero, List.set_cons_succ]
        refine' Reg.wpG_take (i := 2) (oi := { dst := some 18, op := Op.move (Operand.tmp 17), type := 4, pos := "set.go:45", after := #[{ on := 1, ground := Ground.data }], guard := none }) (v := _) [3, 4, 5, 6, 7, 8, 9, 10, 11, 12] [] rfl rfl (by kernel_rfl) (by kernel_rfl) (by kernel_rfl) (by kernel_rfl) (by kernel_rfl) (by kernel_rfl) (by kernel_rfl) (fun _ _ _ h => h) (Or.inl ⟨by rfl, Or.inl ?hy7⟩) ?rest7
        case hy7 => (intro w' kk ss; obtain ⟨z0, z1⟩ := (HD.out.since (hr0.trans kk)).two; obtain ⟨y0, y1⟩ := HO.out _ (hr0.trans kk); go_simp; first | done | with_reducible rfl)
        try simp only [Act.put, List.setIfInBounds_toArray, List.set_cons_zero, List.set_cons_succ]
        refine' Reg.wpG_take (i := 3) (oi := { dst := some 19, op := Op.fieldAddr 32 (Operand.tmp 5) 0, type := 0, pos := "set.go:45", after := #[{ on := 2, ground := Ground.guard }], guard := some (2, true) }) (v := _) [4, 11, 12] [] rfl rfl (by kernel_rfl) (by kernel_rfl) (by kernel_rfl) (by kernel_rfl) (by kernel_rfl) (by kernel_rfl) (by kernel_rfl) (fun _ _ _ h => h) (Or.inl ⟨by rfl, Or.inl ?hy8⟩) ?rest8
        case hy8 => (intro w' kk ss; obtain ⟨z0, z1⟩ := (HD.out.since (hr0.trans kk)).two; obtain ⟨y0, y1⟩ := HO.out _ (hr0.trans kk); go_simp; first | done | with_reducible rfl)
        try simp only [Act.put, List.setIfInBounds_toArray, List.set_cons_zero, List.set_cons_succ]
        refine' Reg.wpG_take (i := 4) (oi := { dst := some 20, op := Op.load 2 (Operand.tmp 19), type := 2, pos := "set.go:45", after := #[{ on := 3, ground := Ground.data }, { on := 2, ground := Ground.guard }], guard := some (2, true) }) (v := _) [11, 12] [] rfl rfl (by kernel_rfl) (by kernel_rfl) (by kernel_rfl) (by kernel_rfl) (by kernel_rfl) (by kernel_rfl) (by kernel_rfl) (fun _ _ _ h => h) (Or.inl ⟨by rfl, Or.inl ?hy9⟩) ?rest9
        case hy9 => (intro w' kk ss; obtain ⟨z0, z1⟩ := (HD.out.since (hr0.trans kk)).two; obtain ⟨y0, y1⟩ := HO.out _ (hr0.trans kk); go_simp; first | done | with_reducible rfl)
        try simp only [Act.put, List.setIfInBounds_toArray, List.set_cons_zero, List.set_cons_succ]
        refine' Reg.wpG_take (i := 5) (oi := { dst := some 21, op := Op.move (Operand.tmp 3), type := 22, pos := "set.go:45", after := #[{ on := 2, ground := Ground.guard }], guard := some (2, true) }) (v := _) [7, 8, 9, 10, 11, 12] [] rfl rfl (by kernel_rfl) (by kernel_rfl) (by kernel_rfl) (by kernel_rfl) (by kernel_rfl) (by kernel_rfl) (by kernel_rfl) (fun _ _ _ h => h) (Or.inl ⟨by rfl, Or.inl ?hy10⟩) ?rest10
        case hy10 => (intro w' kk ss; obtain ⟨z0, z1⟩ := (HD.out.since (hr0.trans kk)).two; obtain ⟨y0, y1⟩ := HO.out _ (hr0.trans kk); go_simp; first | done | with_reducible rfl)
        try simp only [Act.put, List.setIfInBounds_toArray, List.set_cons_zero, List.set_cons_succ]
        refine' Reg.wpG_take (i := 6) (oi := { dst := some 22, op := Op.move (Operand.tmp 6), type := 3, pos := "set.go:45", after := #[{ on := 2, ground := Ground.guard }], guard := some (2, true) }) (v := _) [7, 8, 9, 10, 11, 12] [] rfl rfl (by kernel_rfl) (by kernel_rfl) (by kernel_rfl) (by kernel_rfl) (by kernel_rfl) (by kernel_rfl) (by kernel_rfl) (fun _ _ _ h => h) (Or.inl ⟨by rfl, Or.inl ?hy11⟩) ?rest11
        case hy11 => (intro w' kk ss; obtain ⟨z0, z1⟩ := (HD.out.since (hr0.trans kk)).two; obtain ⟨y0, y1⟩ := HO.out _ (hr0.trans kk); go_simp; first | done | with_reducible rfl)
        try simp only [Act.put, List.setIfInBounds_toArray, List.set_cons_zero, List.set_cons_succ]
        refine' Reg.wpG_take (i := 7) (oi := { dst := some 23, op := Op.indexAddr 22 (Operand.tmp 21) (Operand.tmp 22), type := 0, pos := "set.go:45", after := #[{ on := 5, ground := Ground.data }, { on := 6, ground := Ground.data }, { on := 2, ground := Ground.guard }], guard := some (2, true) }) (v := _) [8, 9, 10, 11, 12] [] rfl rfl (by kernel_rfl) (by kernel_rfl) (by kernel_rfl) (by kernel_rfl) (by kernel_rfl) (by kernel_rfl) (by kernel_rfl) (fun _ _ _ h => h) (Or.inl ⟨by rfl, Or.inl ?hy12⟩) ?rest12
        case hy12 => (intro w' kk ss; obtain ⟨z0, z1⟩ := (HD.out.since (hr0.trans kk)).two; obtain ⟨y0, y1⟩ := HO.out _ (hr0.trans kk); go_simp; first | done | with_reducible rfl)
        try simp only [Act.put, List.setIfInBounds_toArray, List.set_cons_zero, List.set_cons_succ]
        refine' Reg.wpG_take (i := 8) (oi := { dst := some 24, op := Op.fieldAddr 32 (Operand.tmp 23) 1, type := 0, pos := "set.go:45", after := #[{ on := 7, ground := Ground.data }, { on := 2, ground := Ground.guard }], guard := some (2, true) }) (v := _) [9, 10, 11, 12] [] rfl rfl (by kernel_rfl) (by kernel_rfl) (by kernel_rfl) (by kernel_rfl) (by kernel_rfl) (by kernel_rfl) (by kernel_rfl) (fun _ _ _ h => h) (Or.inl ⟨by rfl, Or.inl ?hy13⟩) ?rest13
        case hy13 => (intro w' kk ss; obtain ⟨z0, z1⟩ := (HD.out.since (hr0.trans kk)).two; obtain ⟨y0, y1⟩ := HO.out _ (hr0.trans kk); go_simp; first | done | with_reducible rfl)
        try simp only [Act.put, List.setIfInBounds_toArray, List.set_cons_zero, List.set_cons_succ]
        refine' Reg.wpG_take (i := 9) (oi := { dst := some 25, op := Op.load 2 (Operand.tmp 24), type := 2, pos := "set.go:45", after := #[{ on := 8, ground := Ground.data }, { on := 2, ground := Ground.guard }], guard := some (2, true) }) (v := _) [10, 11, 12] [] rfl rfl (by kernel_rfl) (by kernel_rfl) (by kernel_rfl) (by kernel_rfl) (by kernel_rfl) (by kernel_rfl) (by kernel_rfl) (fun _ _ _ h => h) (Or.inl ⟨by rfl, Or.inl ?hy14⟩) ?rest14
        case hy14 => (intro w' kk ss; obtain ⟨z0, z1⟩ := (HD.out.since (hr0.trans kk)).two; obtain ⟨y0, y1⟩ := HO.out _ (hr0.trans kk); go_simp; first | done | with_reducible rfl)
        try simp only [Act.put, List.setIfInBounds_toArray, List.set_cons_zero, List.set_cons_succ]
        refine' Reg.wpG_take (i := 10) (oi := { dst := some 26, op := Op.binOp BinOp.add 2 (Operand.tmp 25) (Operand.const (Value.int IntKind.i64 1)) 2, type := 2, pos := "set.go:45", after := #[{ on := 9, ground := Ground.data }, { on := 2, ground := Ground.guard }], guard := some (2, true) }) (v := _) [11, 12] [] rfl rfl (by kernel_rfl) (by kernel_rfl) (by kernel_rfl) (by kernel_rfl) (by kernel_rfl) (by kernel_rfl) (by kernel_rfl) (fun _ _ _ h => h) (Or.inl ⟨by rfl, Or.inl ?hy15⟩) ?rest15
        case hy15 => (intro w' kk ss; obtain ⟨z0, z1⟩ := (HD.out.since (hr0.trans kk)).two; obtain ⟨y0, y1⟩ := HO.out _ (hr0.trans kk); go_simp; first | done | with_reducible rfl)
        try simp only [Act.put, List.setIfInBounds_toArray, List.set_cons_zero, List.set_cons_succ]
        refine' Reg.wpG_take (i := 11) (oi := { dst := some 27, op := Op.binOp BinOp.leq 2 (Operand.tmp 20) (Operand.tmp 26) 2, type := 4, pos := "set.go:45", after := #[{ on := 4, ground := Ground.data }, { on := 10, ground := Ground.data }, { on := 2, ground := Ground.guard }], guard := some (2, true) }) (v := _) [12] [] rfl rfl (by kernel_rfl) (by kernel_rfl) (by kernel_rfl) (by kernel_rfl) (by kernel_rfl) (by kernel_rfl) (by kernel_rfl) (fun _ _ _ h => h) (Or.inl ⟨by rfl, Or.inl ?hy16⟩) ?rest16
        case hy16 => (intro w' kk ss; obtain ⟨z0, z1⟩ := (HD.out.since (hr0.trans kk)).two; obtain ⟨y0, y1⟩ := HO.out _ (hr0.trans kk); go_simp; first | done | with_reducible rfl)
        try simp only [Act.put, List.setIfInBounds_toArray, List.set_cons_zero, List.set_cons_succ]
        refine' Reg.wpG_take (i := 12) (oi := { dst := some 28, op := Op.pick (Operand.tmp 18) (Operand.tmp 27) (Operand.const (Value.bool false)), type := 4, pos := "set.go:45", after := #[{ on := 2, ground := Ground.data }, { on := 11, ground := Ground.data }], guard := none }) (v := _) [] [] rfl rfl (by kernel_rfl) (by kernel_rfl) (by kernel_rfl) (by kernel_rfl) (by kernel_rfl) (by kernel_rfl) (by kernel_rfl) (fun _ _ _ h => h) (Or.inl ⟨by rfl, Or.inl ?hy17⟩) ?rest17
        case hy17 => (intro w' kk ss; obtain ⟨z0, z1⟩ := (HD.out.since (hr0.trans kk)).two; obtain ⟨y0, y1⟩ := HO.out _ (hr0.trans kk); go_simp; first | done | with_reducible rfl)
        try simp only [Act.put, List.setIfInBounds_toArray, List.set_cons_zero, List.set_cons_succ]
        refine Reg.wpG_done (by kernel_rfl) (fun w6 ke se => ?_) _
        refine NoPanic.normal ?_
        have hr0 := hr0.trans ke
        clear ke
        have HO6 := Lib.hid (fun W (kk : Since w6 W) => HO.out W (hr0.trans kk))
        have HD6 := Lib.hid (HD.out.since hr0)
        have WB6 := Lib.hid (WB.out.since hr0)
        clear hr0 HO HD
        by_cases cc : lo ≤ c1 + 1
        · have HE2 := Lib.hid (fun z hz => At.same HPU.out DR.out cc z hz)
          go_wp2
          have hr0 : Since w6 w6.drew := Since.drew (Since.refl w6)
          refine wp_region_noPanic ?_
          refine Reg.wp_region_G (S := fun _ => True) (fun j => [12].contains j) (by kernel_rfl) trivial ?_
          refine' Reg.wpG_take (i := 0) (oi := { dst := some 29, op := Op.move (Operand.tmp 3), type := 22, pos := "set.go:46", after := #[], guard := none }) (v := _) [10, 11, 12] [12] rfl rfl (by kernel_rfl) (by kernel_rfl) (by kernel_rfl) (by kernel_rfl) (by kernel_rfl) (by kernel_rfl) (by kernel_rfl) (fun _ _ _ h => h) (Or.inl ⟨by rfl, Or.inl ?hy18⟩) ?rest18
          case hy18 => (intro w' kk ss; obtain ⟨z0, z1⟩ := (HD6.out.since (hr0.trans kk)).two; obtain ⟨y0, y1⟩ := HO6.out _ (hr0.trans kk); go_simp; first | done | with_reducible rfl)
          try simp only [Act.put, List.setIfInBounds_toArray, List.set_cons_zero, List.set_cons_succ]
          refine' Reg.wpG_take (i := 1) (oi := { dst := some 30, op := Op.move (Operand.tmp 6), type := 3, pos := "set.go:46", after := #[], guard := none }) (v := _) [10, 11, 12] [12] rfl rfl (by kernel_rfl) (by kernel_rfl) (by kernel_rfl) (by kernel_rfl) (by kernel_rfl) (by kernel_rfl) (by kernel_rfl) (fun _ _ _ h => h) (Or.inl ⟨by rfl, Or.inl ?hy19⟩) ?rest19
          case hy19 => (intro w' kk ss; obtain ⟨z0, z1⟩ := (HD6.out.since (hr0.trans kk)).two; obtain ⟨y0, y1⟩ := HO6.out _ (hr0.trans kk); go_simp; first | done | with_reducible rfl)
          try simp only [Act.put, List.setIfInBounds_toArray, List.set_cons_zero, List.set_cons_succ]
          refine' Reg.wpG_take (i := 2) (oi := { dst := some 31, op := Op.move (Operand.tmp 3), type := 22, pos := "set.go:46", after := #[], guard := none }) (v := _) [4, 5, 6, 9, 10, 11, 12] [12] rfl rfl (by kernel_rfl) (by kernel_rfl) (by kernel_rfl) (by kernel_rfl) (by kernel_rfl) (by kernel_rfl) (by kernel_rfl) (fun _ _ _ h => h) (Or.inl ⟨by rfl, Or.inl ?hy20⟩) ?rest20
          case hy20 => (intro w' kk ss; obtain ⟨z0, z1⟩ := (HD6.out.since (hr0.trans kk)).two; obtain ⟨y0, y1⟩ := HO6.out _ (hr0.trans kk); go_simp; first | done | with_reducible rfl)
          try simp only [Act.put, List.setIfInBounds_toArray, List.set_cons_zero, List.set_cons_succ]
          refine' Reg.wpG_take (i := 3) (oi := { dst := some 32, op := Op.move (Operand.tmp 6), type := 3, pos := "set.go:46", after := #[], guard := none }) (v := _) [4, 5, 6, 9, 10, 11, 12] [12] rfl rfl (by kernel_rfl) (by kernel_rfl) (by kernel_rfl) (by kernel_rfl) (by kernel_rfl) (by kernel_rfl) (by kernel_rfl) (fun _ _ _ h => h) (Or.inl ⟨by rfl, Or.inl ?hy21⟩) ?rest21
          case hy21 => (intro w' kk ss; obtain ⟨z0, z1⟩ := (HD6.out.since (hr0.trans kk)).two; obtain ⟨y0, y1⟩ := HO6.out _ (hr0.trans kk); go_simp; first | done | with_reducible rfl)
          try simp only [Act.put, List.setIfInBounds_toArray, List.set_cons_zero, List.set_cons_succ]
          refine' Reg.wpG_take (i := 4) (oi := { dst := some 33, op := Op.indexAddr 22 (Operand.tmp 31) (Operand.tmp 32), type := 0, pos := "set.go:46", after := #[{ on := 2, ground := Ground.data }, { on := 3, ground := Ground.data }], guard := none }) (v := _) [5, 6, 9, 10, 11, 12] [12] rfl rfl (by kernel_rfl) (by kernel_rfl) (by kernel_rfl) (by kernel_rfl) (by kernel_rfl) (by kernel_rfl) (by kernel_rfl) (fun _ _ _ h => h) (Or.inl ⟨by rfl, Or.inl ?hy22⟩) ?rest22
          case hy22 => (intro w' kk ss; obtain ⟨z0, z1⟩ := (HD6.out.since (hr0.trans kk)).two; obtain ⟨y0, y1⟩ := HO6.out _ (hr0.trans kk); go_simp; first | done | with_reducible rfl)
          try simp only [Act.put, List.setIfInBounds_toArray, List.set_cons_zero, List.set_cons_succ]
          refine' Reg.wpG_take (i := 5) (oi := { dst := some 34, op := Op.fieldAddr 32 (Operand.tmp 33) 1, type := 0, pos := "set.go:46", after := #[{ on := 4, ground := Ground.data }], guard := none }) (v := _) [6, 9, 10, 11, 12] [12] rfl rfl (by kernel_rfl) (by kernel_rfl) (by kernel_rfl) (by kernel_rfl) (by kernel_rfl) (by kernel_rfl) (by kernel_rfl) (fun _ _ _ h => h) (Or.inl ⟨by rfl, Or.inl ?hy23⟩) ?rest23
          case hy23 => (intro w' kk ss; obtain ⟨z0, z1⟩ := (HD6.out.since (hr0.trans kk)).two; obtain ⟨y0, y1⟩ := HO6.out _ (hr0.trans kk); go_simp; first | done | with_reducible rfl)
          try simp only [Act.put, List.setIfInBounds_toArray, List.set_cons_zero, List.set_cons_succ]
          refine' Reg.wpG_take (i := 6) (oi := { dst := some 35, op := Op.load 2 (Operand.tmp 34), type := 2, pos := "set.go:46", after := #[{ on := 5, ground := Ground.data }], guard := none }) (v := _) [9, 10, 11, 12] [12] rfl rfl (by kernel_rfl) (by kernel_rfl) (by kernel_rfl) (by kernel_rfl) (by kernel_rfl) (by kernel_rfl) (by kernel_rfl) (fun _ _ _ h => h) (Or.inl ⟨by rfl, Or.inl ?hy24⟩) ?rest24
          case hy24 => (intro w' kk ss; obtain ⟨z0, z1⟩ := (HD6.out.since (hr0.trans kk)).two; obtain ⟨y0, y1⟩ := HO6.out _ (hr0.trans kk); go_simp; first | done | with_reducible rfl)
          try simp only [Act.put, List.setIfInBounds_toArray, List.set_cons_zero, List.set_cons_succ]
          refine' Reg.wpG_take (i := 7) (oi := { dst := some 36, op := Op.fieldAddr 32 (Operand.tmp 5) 1, type := 0, pos := "set.go:46", after := #[], guard := none }) (v := _) [8, 9, 10, 11, 12] [12] rfl rfl (by kernel_rfl) (by kernel_rfl) (by kernel_rfl) (by kernel_rfl) (by kernel_rfl) (by kernel_rfl) (by kernel_rfl) (fun _ _ _ h => h) (Or.inl ⟨by rfl, Or.inl ?hy25⟩) ?rest25
          case hy25 => (intro w' kk ss; obtain ⟨z0, z1⟩ := (HD6.out.since (hr0.trans kk)).two; obtain ⟨y0, y1⟩ := HO6.out _ (hr0.trans kk); go_simp; first | done | with_reducible rfl)
          try simp only [Act.put, List.setIfInBounds_toArray, List.set_cons_zero, List.set_cons_succ]
          refine' Reg.wpG_take (i := 8) (oi := { dst := some 37, op := Op.load 2 (Operand.tmp 36), type := 2, pos := "set.go:46", after := #[{ on := 7, ground := Ground.data }], guard := none }) (v := _) [9, 10, 11, 12] [12] rfl rfl (by kernel_rfl) (by kernel_rfl) (by kernel_rfl) (by kernel_rfl) (by kernel_rfl) (by kernel_rfl) (by kernel_rfl) (fun _ _ _ h => h) (Or.inl ⟨by rfl, Or.inl ?hy26⟩) ?rest26
          case hy26 => (intro w' kk ss; obtain ⟨z0, z1⟩ := (HD6.out.since (hr0.trans kk)).two; obtain ⟨y0, y1⟩ := HO6.out _ (hr0.trans kk); go_simp; first | done | with_reducible rfl)
          try simp only [Act.put, List.setIfInBounds_toArray, List.set_cons_zero, List.set_cons_succ]
          refine' Reg.wpG_take (i := 9) (oi := { dst := some 38, op := Op.call { callee := Callee.builtin Builtin.max, args := #[Operand.tmp 35, Operand.tmp 37], argTypes := #[2, 2] }, type := 2, pos := "set.go:46", after := #[{ on := 6, ground := Ground.data }, { on := 8, ground := Ground.data }], guard := none }) (v := _) [10, 11, 12] [12] rfl rfl (by kernel_rfl) (by kernel_rfl) (by kernel_rfl) (by kernel_rfl) (by kernel_rfl) (by kernel_rfl) (by kernel_rfl) (fun _ _ _ h => h) (Or.inl ⟨by rfl, Or.inl ?hy27⟩) ?rest27
          case hy27 => (intro w' kk ss; obtain ⟨z0, z1⟩ := (HD6.out.since (hr0.trans kk)).two; obtain ⟨y0, y1⟩ := HO6.out _ (hr0.trans kk); go_simp; first | done | with_reducible rfl)
          try simp only [Act.put, List.setIfInBounds_toArray, List.set_cons_zero, List.set_cons_succ]
          refine' Reg.wpG_take (i := 10) (oi := { dst := some 39, op := Op.indexAddr 22 (Operand.tmp 29) (Operand.tmp 30), type := 0, pos := "set.go:46", after := #[{ on := 0, ground := Ground.data }, { on := 1, ground := Ground.data }, { on := 0, ground := Ground.phase }, { on := 1, ground := Ground.phase }, { on := 2, ground := Ground.phase }, { on := 3, ground := Ground.phase }, { on := 4, ground := Ground.phase }, { on := 5, ground := Ground.phase }, { on := 6, ground := Ground.phase }, { on := 7, ground := Ground.phase }, { on := 8, ground := Ground.phase }, { on := 9, ground := Ground.phase }], guard := none }) (v := _) [11, 12] [12] rfl rfl (by kernel_rfl) (by kernel_rfl) (by kernel_rfl) (by kernel_rfl) (by kernel_rfl) (by kernel_rfl) (by kernel_rfl) (fun _ _ _ h => h) (Or.inl ⟨by rfl, Or.inl ?hy28⟩) ?rest28
          case hy28 => (intro w' kk ss; obtain ⟨z0, z1⟩ := (HD6.out.since (hr0.trans kk)).two; obtain ⟨y0, y1⟩ := HO6.out _ (hr0.trans kk); go_simp; first | done | with_reducible rfl)
          try simp only [Act.put, List.setIfInBounds_toArray, List.set_cons_zero, List.set_cons_succ]
          refine' Reg.wpG_take (i := 11) (oi := { dst := some 40, op := Op.fieldAddr 32 (Operand.tmp 39) 1, type := 0, pos := "set.go:46", after := #[{ on := 10, ground := Ground.data }, { on := 0, ground := Ground.phase }, { on := 1, ground := Ground.phase }, { on := 2, ground := Ground.phase }, { on := 3, ground := Ground.phase }, { on := 4, ground := Ground.phase }, { on := 5, ground := Ground.phase }, { on := 6, ground := Ground.phase }, { on := 7, ground := Ground.phase }, { on := 8, ground := Ground.phase }, { on := 9, ground := Ground.phase }], guard := none }) (v := _) [12] [12] rfl rfl (by kernel_rfl) (by kernel_rfl) (by kernel_rfl) (by kernel_rfl) (by kernel_rfl) (by kernel_rfl) (by kernel_rfl) (fun _ _ _ h => h) (Or.inl ⟨by rfl, Or.inl ?hy29⟩) ?rest29
          case hy29 => (intro w' kk ss; obtain ⟨z0, z1⟩ := (HD6.out.since (hr0.trans kk)).two; obtain ⟨y0, y1⟩ := HO6.out _ (hr0.trans kk); go_simp; first | done | with_reducible rfl)
          try simp only [Act.put, List.setIfInBounds_toArray, List.set_cons_zero, List.set_cons_succ]
          refine Reg.wpG_ready (rs := [12]) (by kernel_rfl) (by simp) (fun wq kq sq => ?_)
          have hr0 := hr0.trans kq
          refine Reg.AllG.last (o := { dst := none, op := Op.store 2 (Operand.tmp 40) (Operand.tmp 38), type := 0, pos := "set.go:46", after := #[{ on := 11, ground := Ground.data }, { on := 9, ground := Ground.data }, { on := 0, ground := Ground.phase }, { on := 1, ground := Ground.phase }, { on := 2, ground := Ground.phase }, { on := 3, ground := Ground.phase }, { on := 4, ground := Ground.phase }, { on := 5, ground := Ground.phase }, { on := 6, ground := Ground.phase }, { on := 7, ground := Ground.phase }, { on := 8, ground := Ground.phase }, { on := 9, ground := Ground.phase }], guard := none }) rfl (by rfl) (fun K hK => ?_) Reg.AllG.nil
          obtain ⟨y0, y1⟩ := HO6.out _ hr0
          go_simp
          refine hK.out _ _ trivial (fun hHeld => ?_)
          clear hK K
          try simp only [Act.put, List.setIfInBounds_toArray, List.set_cons_zero, List.set_cons_succ]
          refine wpAnyH_done (by kernel_rfl) ?_ _
          refine NoPanic.normal ?_
          have h9 := Rw.last (WB6.out.since hr0) HPL.out (if c1 < hi then hi else c1)
          have HM := Lib.hid (show (if c1 < hi then hi else c1) = max c1 hi by split <;> omega)
          generalize (if c1 < hi then hi else c1) = M at *
          have hM := HM.out
          have H9 := Lib.hid h9
          have HE3 := Lib.hid (HE2.out M hM (by omega) (by omega))
          clear h9 hr0 HE2 HM hM HD6 HO6 hHeld sq kq
          go_wp2
          go_roundw
          case rel => exact ⟨k + 1, some ⟨gd, 0, none⟩, m + 1, d2, _, by go_num, rfl, by omega, by omega, by rw [List.length_append, HPL.out]; rfl, H9.out, HE3.out⟩
          case measure => simp [intOf]; omega
        · have HE2 := Lib.hid (At.more HPU.out DR.out cc (show (-1048576 : Int) ≤ (lo, hi).2 by simp only; omega) (by simp only; omega))
          obtain ⟨z0, z1⟩ := HD6.out.two
          go_wp2_with (at_builtin; refine wpList_app (WB6.out.since (since_alloc _ _)) (by rw [HX.out]; omega) (lo, hi) w6.heap.size 1 (Bx.fresh w6 _ _).two.1 (Bx.fresh w6 _ _).two.2 (by rfl) _ _ rfl rfl rfl ?_; intro A3 c3 w3 h3 _)
          rw [HX.out] at h3
          go_roundw
          case rel => exact ⟨k + 1, A3, m + 1 + 1, c3, _, by go_num, by first | rfl | rw [HX.out] | rw [HPL.out], by omega, by omega, by rw [List.length_append, HX.out]; rfl, h3, HE2.out⟩
          case measure => simp [intOf]; omega
    · obtain rfl : k = n := by omega
      have HE2 := Lib.hid (show xs = R from At.end_ (HN.out ▸ HE.out))
      go_wp2
      go_ret
      exact .of HE2.out HX.out HW.out
end Go.Proofs.Ytdlbfpodgjkimaa.Zs
