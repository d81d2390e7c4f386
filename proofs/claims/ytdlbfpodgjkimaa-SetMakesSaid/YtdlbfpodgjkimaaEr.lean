/- Layer 9 (set): the document's own joined: a set, and a range that has a value. -/
import Derived.Test.YtdlbfpodgjkimaaEp
import Derived.Test.YtdlbfpodgjkimaaEj
import Derived.Test.YtdlbfpodgjkimaaEk
namespace Go.Proofs.Ytdlbfpodgjkimaa.Zs
open Go.RowKit
set_option linter.unusedVariables false
set_option linter.unusedSimpArgs false
open Go.Proofs.Ytdlbfpodgjkimaa.Dig Go.Proofs.Ytdlbfpodgjkimaa.Lx Go.Proofs.Ytdlbfpodgjkimaa.Tk Go.Proofs.Ytdlbfpodgjkimaa.Ti

theorem joinT_a {xs R : List Rn} {r k : Rn} {la : Bool} {d : List Rn} (h : xs ++ joinT r la (k :: d) = R) (c : k.2 + 1 < r.1) : xs ++ [k] ++ joinT r la d = R := by
  rw [joinT, if_pos c] at h; rw [List.append_assoc]; exact h
theorem joinT_b {xs R : List Rn} {r k : Rn} {d : List Rn} (h : xs ++ joinT r true (k :: d) = R) (c : ¬ k.2 + 1 < r.1) (c2 : r.2 + 1 < k.1) : xs ++ [k] ++ joinT r true d = R := by
  rw [joinT, if_neg c, if_pos c2, if_pos rfl] at h; rw [List.append_assoc]; exact h
theorem joinT_c {xs R : List Rn} {r k : Rn} {d : List Rn} (h : xs ++ joinT r false (k :: d) = R) (c : ¬ k.2 + 1 < r.1) (c2 : r.2 + 1 < k.1) : xs ++ [r] ++ [k] ++ joinT r true d = R := by
  rw [joinT, if_neg c, if_pos c2, if_neg (by decide)] at h; rw [List.append_assoc, List.append_assoc]; exact h
theorem joinT_d {xs R : List Rn} {r k : Rn} {la : Bool} {d : List Rn} (h : xs ++ joinT r la (k :: d) = R) (c : ¬ k.2 + 1 < r.1) (c2 : ¬ r.2 + 1 < k.1) (a b : Int) (ha : a = min r.1 k.1) (hb : b = max r.2 k.2) : xs ++ joinT (a, b) la d = R := by
  subst ha hb; rw [joinT, if_neg c, if_neg c2] at h; exact h
set_option maxRecDepth 20000 in
set_option maxHeartbeats 4000000 in
theorem rjoined_any (v : Value) (l : List Rn) (r : Rn) (w : World) (h : Sl 2 QR w v l) (hl : l.length ≤ 100000) (hf : full l) (hr : -1048576 ≤ r.1 ∧ r.1 ≤ 1048576 ∧ -1048576 ≤ r.2 ∧ r.2 ≤ 1048576) :
    Calls Try.prog 37 #[v, .agg #[.int .i64 r.1, .int .i64 r.2]] w (RetS (joinT r false l) w) := by
  obtain ⟨A, c, rfl⟩ := h.form
  obtain ⟨R, hR⟩ : ∃ R, R = joinT r false l := ⟨_, rfl⟩
  rw [← hR]
  obtain ⟨n, hn⟩ : ∃ n, n = l.length := ⟨_, rfl⟩
  rw [← hn] at h hl ⊢
  have H := Lib.hid h
  have HN := Lib.hid hn
  have HR := Lib.hid hR
  have HF := Lib.hid hf
  obtain ⟨q0, q1⟩ := r
  simp only at hr
  have HB0 := Lib.hid (Bx.fresh w #[.int .i64 q0, .int .i64 q1] 32)
  have HS0 := Lib.hid (since_alloc w (.cells #[.int .i64 q0, .int .i64 q1] 32))
  have hsz0 : (w.alloc (.cells #[.int .i64 q0, .int .i64 q1] 32)).heap.size = w.heap.size + 1 := by simp
  clear h hn hR hf
  go_enter Try.func37, Try.ntmps37
  go_wp2
  go_loopw [5, 6, 7] (fun s lv i wr => ∃ (k : Nat) (A : Option Addr) (m c : Nat) (xs : List Rn) (r0 r1 : Int) (la : Bool), i = .int .i64 (k : Int) ∧ s = .slice A m c ∧ lv = .bool la ∧ k ≤ n ∧ m ≤ 2 * k ∧ (-1048576 ≤ r0 ∧ r0 ≤ 1048576 ∧ -1048576 ≤ r1 ∧ r1 ≤ 1048576) ∧ w.heap.size + 1 ≤ wr.heap.size ∧ Hid (xs.length = m) ∧ Hid (wr.ownsRow (w.heap.size + 1) 32 2 (.slice A m c) m (rcells xs)) ∧ Hid (Bx wr w.heap.size #[.int .i64 r0, .int .i64 r1] 32) ∧ Hid (Since w wr) ∧ Hid (xs ++ joinT (r0, r1) la (l.drop k) = R)) (fun _ _ i _ => n - (intOf i).toNat)
  case atStart => exact ⟨0, none, 0, 0, [], q0, q1, false, rfl, rfl, rfl, Nat.zero_le _, Nat.le_refl _, hr, by rw [hsz0]; exact Nat.le_refl _, rfl, World.ownsRow_nil _ _ _ _, HB0.out, HS0.out, HR.out.symm⟩
  case round =>
    obtain ⟨k, A2, m, d2, xs, r0, r1, la, rfl, rfl, rfl, hk, hm, hrr, hszr, HX, HO, HB, HW, HE⟩ := hrel
    clear HB0 HS0 hr hsz0
    by_cases hkn : k < n
    · have hkl : k < l.length := by have := HN.out; omega
      obtain ⟨g, o, rfl, E0, E1⟩ := elR H.out hkl
      have e0 := (HW.out.cell _ (World.block_lt_of_cell? _ _ E0)).trans E0
      have e1 := (HW.out.cell _ (World.block_lt_of_cell? _ _ E1)).trans E1
      have hst := HE.out
      have hbz := HF.out l[k] (List.getElem_mem hkl)
      rw [drop_at hkl] at hst
      generalize l[k] = y at *
      obtain ⟨y0, y1⟩ := y
      simp only [mx] at hst e0 e1 hbz E0 E1
      have E0 := Lib.hid E0
      have E1 := Lib.hid E1
      have ST := Lib.hid hst
      have HC := Lib.hid (fun W (kk : Since wr W) => (show W.cell? ⟨g, o + k * 2, none⟩ = some (.int .i64 y0) ∧ W.cell? ⟨g, o + k * 2 + 1, none⟩ = some (.int .i64 y1) from ⟨(kk.cell _ (World.block_lt_of_cell? _ _ e0)).trans e0, (kk.cell _ (World.block_lt_of_cell? _ _ e1)).trans e1⟩))
      have HD := Lib.hid (fun W (kk : Since wr W) => (HB.out.since kk).two)
      have hv1 := wrap_id (x := y1 + 1) (by omega) (by omega)
      have hv2 := wrap_id (x := r1 + 1) (by omega) (by omega)
      have hxl : m ≤ 1000000 := by omega
      clear hst hkl HE e0 e1
      go_wp2
      have hr0 : Since wr wr.drew := Since.drew (Since.refl wr)
      refine wp_region_noPanic ?_
      refine Reg.wp_region_G (S := fun _ => True) (fun j => [].contains j) (by kernel_rfl) trivial ?_
      refine' Reg.wpG_take (i := 0) (oi := { dst := some 14, op := Op.move (Operand.tmp 0), type := 22, pos := "ref.go:42", after := #[], guard := none }) (v := _) [2, 3, 4, 5, 8] [] rfl rfl (by kernel_rfl) (by kernel_rfl) (by kernel_rfl) (by kernel_rfl) (by kernel_rfl) (by kernel_rfl) (by kernel_rfl) (fun _ _ _ h => h) (Or.inl ⟨by rfl, Or.inl ?hy1⟩) ?rest1
      case hy1 => (intro w' kk ss; obtain ⟨x0, x1⟩ := HC.out _ (hr0.trans kk); obtain ⟨z0, z1⟩ := HD.out _ (hr0.trans kk); go_simp; first | done | with_reducible rfl)
      try simp only [Act.put, List.setIfInBounds_toArray, List.set_cons_zero, List.set_cons_succ]
      refine' Reg.wpG_take (i := 1) (oi := { dst := some 15, op := Op.move (Operand.tmp 7), type := 3, pos := "ref.go:42", after := #[], guard := none }) (v := _) [2, 3, 4, 5, 8] [] rfl rfl (by kernel_rfl) (by kernel_rfl) (by kernel_rfl) (by kernel_rfl) (by kernel_rfl) (by kernel_rfl) (by kernel_rfl) (fun _ _ _ h => h) (Or.inl ⟨by rfl, Or.inl ?hy2⟩) ?rest2
      case hy2 => (intro w' kk ss; obtain ⟨x0, x1⟩ := HC.out _ (hr0.trans kk); obtain ⟨z0, z1⟩ := HD.out _ (hr0.trans kk); go_simp; first | done | with_reducible rfl)
      try simp only [Act.put, List.setIfInBounds_toArray, List.set_cons_zero, List.set_cons_succ]
      refine' Reg.wpG_take (i := 2) (oi := { dst := some 16, op := Op.indexAddr 22 (Operand.tmp 14) (Operand.tmp 15), type := 0, pos := "ref.go:42", after := #[{ on := 0, ground := Ground.data }, { on := 1, ground := Ground.data }], guard := none }) (v := _) [3, 4, 5, 8] [] rfl rfl (by kernel_rfl) (by kernel_rfl) (by kernel_rfl) (by kernel_rfl) (by kernel_rfl) (by kernel_rfl) (by kernel_rfl) (fun _ _ _ h => h) (Or.inl ⟨by rfl, Or.inl ?hy3⟩) ?rest3
      case hy3 => (intro w' kk ss; obtain ⟨x0, x1⟩ := HC.out _ (hr0.trans kk); obtain ⟨z0, z1⟩ := HD.out _ (hr0.trans kk); go_simp; first | done | with_reducible rfl)
      try simp only [Act.put, List.setIfInBounds_toArray, List.set_cons_zero, List.set_cons_succ]
      refine' Reg.wpG_take (i := 3) (oi := { dst := some 17, op := Op.fieldAddr 32 (Operand.tmp 16) 1, type := 0, pos := "ref.go:42", after := #[{ on := 2, ground := Ground.data }], guard := none }) (v := _) [4, 5, 8] [] rfl rfl (by kernel_rfl) (by kernel_rfl) (by kernel_rfl) (by kernel_rfl) (by kernel_rfl) (by kernel_rfl) (by kernel_rfl) (fun _ _ _ h => h) (Or.inl ⟨by rfl, Or.inl ?hy4⟩) ?rest4
      case hy4 => (intro w' kk ss; obtain ⟨x0, x1⟩ := HC.out _ (hr0.trans kk); obtain ⟨z0, z1⟩ := HD.out _ (hr0.trans kk); go_simp; first | done | with_reducible rfl)
      try simp only [Act.put, List.setIfInBounds_toArray, List.set_cons_zero, List.set_cons_succ]
      refine' Reg.wpG_take (i := 4) (oi := { dst := some 18, op := Op.load 2 (Operand.tmp 17), type := 2, pos := "ref.go:42", after := #[{ on := 3, ground := Ground.data }], guard := none }) (v := _) [5, 8] [] rfl rfl (by kernel_rfl) (by kernel_rfl) (by kernel_rfl) (by kernel_rfl) (by kernel_rfl) (by kernel_rfl) (by kernel_rfl) (fun _ _ _ h => h) (Or.inl ⟨by rfl, Or.inl ?hy5⟩) ?rest5
      case hy5 => (intro w' kk ss; obtain ⟨x0, x1⟩ := HC.out _ (hr0.trans kk); obtain ⟨z0, z1⟩ := HD.out _ (hr0.trans kk); go_simp; first | done | with_reducible rfl)
      try simp only [Act.put, List.setIfInBounds_toArray, List.set_cons_zero, List.set_cons_succ]
      refine' Reg.wpG_take (i := 5) (oi := { dst := some 19, op := Op.binOp BinOp.add 2 (Operand.tmp 18) (Operand.const (Value.int IntKind.i64 1)) 2, type := 2, pos := "ref.go:42", after := #[{ on := 4, ground := Ground.data }], guard := none }) (v := _) [8] [] rfl rfl (by kernel_rfl) (by kernel_rfl) (by kernel_rfl) (by kernel_rfl) (by kernel_rfl) (by kernel_rfl) (by kernel_rfl) (fun _ _ _ h => h) (Or.inl ⟨by rfl, Or.inl ?hy6⟩) ?rest6
      case hy6 => (intro w' kk ss; obtain ⟨x0, x1⟩ := HC.out _ (hr0.trans kk); obtain ⟨z0, z1⟩ := HD.out _ (hr0.trans kk); go_simp; first | done | with_reducible rfl)
      try simp only [Act.put, List.setIfInBounds_toArray, List.set_cons_zero, List.set_cons_succ]
      refine' Reg.wpG_take (i := 6) (oi := { dst := some 20, op := Op.fieldAddr 32 (Operand.tmp 3) 0, type := 0, pos := "ref.go:42", after := #[], guard := none }) (v := _) [7, 8] [] rfl rfl (by kernel_rfl) (by kernel_rfl) (by kernel_rfl) (by kernel_rfl) (by kernel_rfl) (by kernel_rfl) (by kernel_rfl) (fun _ _ _ h => h) (Or.inl ⟨by rfl, Or.inl ?hy7⟩) ?rest7
      case hy7 => (intro w' kk ss; obtain ⟨x0, x1⟩ := HC.out _ (hr0.trans kk); obtain ⟨z0, z1⟩ := HD.out _ (hr0.trans kk); go_simp; first | done | with_reducible rfl)
      try simp only [Act.put, List.setIfInBounds_toArray, List.set_cons_zero, List.set_cons_succ]
      refine' Reg.wpG_take (i := 7) (oi := { dst := some 21, op := Op.load 2 (Operand.tmp 20), type := 2, pos := "ref.go:42", after := #[{ on := 6, ground := Ground.data }], guard := none }) (v := _) [8] [] rfl rfl (by kernel_rfl) (by kernel_rfl) (by kernel_rfl) (by kernel_rfl) (by kernel_rfl) (by kernel_rfl) (by kernel_rfl) (fun _ _ _ h => h) (Or.inl ⟨by rfl, Or.inl ?hy8⟩) ?rest8
      case hy8 => (intro w' kk ss; obtain ⟨x0, x1⟩ := HC.out _ (hr0.trans kk); obtain ⟨z0, z1⟩ := HD.out _ (hr0.trans kk); go_simp; first | done | with_reducible rfl)
      try simp only [Act.put, List.setIfInBounds_toArray, List.set_cons_zero, List.set_cons_succ]
      refine' Reg.wpG_take (i := 8) (oi := { dst := some 22, op := Op.binOp BinOp.lss 2 (Operand.tmp 19) (Operand.tmp 21) 2, type := 4, pos := "ref.go:42", after := #[{ on := 5, ground := Ground.data }, { on := 7, ground := Ground.data }], guard := none }) (v := _) [] [] rfl rfl (by kernel_rfl) (by kernel_rfl) (by kernel_rfl) (by kernel_rfl) (by kernel_rfl) (by kernel_rfl) (by kernel_rfl) (fun _ _ _ h => h) (Or.inl ⟨by rfl, Or.inl ?hy9⟩) ?rest9
      case hy9 => (intro w' kk ss; obtain ⟨x0, x1⟩ := HC.out _ (hr0.trans kk); obtain ⟨z0, z1⟩ := HD.out _ (hr0.trans kk); go_simp; first | done | with_reducible rfl)
      try simp only [Act.put, List.setIfInBounds_toArray, List.set_cons_zero, List.set_cons_succ]
      refine Reg.wpG_done (by kernel_rfl) (fun w6 ke se => ?_) _
      refine NoPanic.normal ?_
      have hr0 := hr0.trans ke
      clear ke
      have HC6 := Lib.hid (fun W (kk : Since w6 W) => HC.out W (hr0.trans kk))
      have HO6 := Lib.hid (owns_since HO.out hr0)
      have HB6 := Lib.hid (HB.out.since hr0)
      have HW6 := Lib.hid (HW.out.trans hr0)
      have hsz6 := Nat.le_trans hszr hr0.size
      clear hr0 HC HO HD HB HW
      by_cases c1 : y1 + 1 < r0
      · have HE := Lib.hid (joinT_a ST.out c1)
        clear ST
        obtain ⟨x0, x1⟩ := HC6.out _ (Since.refl _)
        go_wp2_with (at_builtin; refine wpList_appb (owns_since HO6.out (since_alloc _ _)) (by have := hsz6; simp; omega) HX.out hxl (y0, y1) w6.heap.size 1 (by simpa using Bx.fresh w6 #[.int .i64 y0, .int .i64 y1] 32) (by rfl) _ _ rfl rfl rfl ?_; intro A3 c3 w3 h3 q3)
        have B3 := Lib.hid (bx_grown (owns_since HO6.out (since_alloc _ _)) (HB6.out.since (since_alloc _ _)) (by omega) q3)
        have S3 := Lib.hid (since_grown (owns_since HO6.out (since_alloc _ _)) (HW6.out.trans (since_alloc _ _)) (by omega) q3)
        have hs3 := Nat.le_trans (Nat.le_trans hsz6 (since_alloc _ _).size) q3.size
        have H3 := Lib.hid h3
        clear h3 q3
        go_wp2
        go_roundw
        case rel => exact ⟨k + 1, A3, m + 1, c3, _, r0, r1, la, by go_num, rfl, rfl, by omega, by omega, hrr, hs3, by rw [List.length_append, HX.out]; rfl, H3.out, B3.out, S3.out, HE.out⟩
        case measure => simp [intOf]; omega
      · have C1 := Lib.hid c1
        have HD6 := Lib.hid (fun W (kk : Since w6 W) => (HB6.out.since kk).two)
        go_wp2
        have hr0 : Since w6 w6.drew := Since.drew (Since.refl w6)
        refine wp_region_noPanic ?_
        refine Reg.wp_region_G (S := fun _ => True) (fun j => [].contains j) (by kernel_rfl) trivial ?_
        refine' Reg.wpG_take (i := 0) (oi := { dst := some 30, op := Op.fieldAddr 32 (Operand.tmp 3) 1, type := 0, pos := "ref.go:46", after := #[], guard := none }) (v := _) [1, 2, 8] [] rfl rfl (by kernel_rfl) (by kernel_rfl) (by kernel_rfl) (by kernel_rfl) (by kernel_rfl) (by kernel_rfl) (by kernel_rfl) (fun _ _ _ h => h) (Or.inl ⟨by rfl, Or.inl ?hy10⟩) ?rest10
        case hy10 => (intro w' kk ss; obtain ⟨x0, x1⟩ := HC6.out _ (hr0.trans kk); obtain ⟨z0, z1⟩ := HD6.out _ (hr0.trans kk); go_simp; first | done | with_reducible rfl)
        try simp only [Act.put, List.setIfInBounds_toArray, List.set_cons_zero, List.set_cons_succ]
        refine' Reg.wpG_take (i := 1) (oi := { dst := some 31, op := Op.load 2 (Operand.tmp 30), type := 2, pos := "ref.go:46", after := #[{ on := 0, ground := Ground.data }], guard := none }) (v := _) [2, 8] [] rfl rfl (by kernel_rfl) (by kernel_rfl) (by kernel_rfl) (by kernel_rfl) (by kernel_rfl) (by kernel_rfl) (by kernel_rfl) (fun _ _ _ h => h) (Or.inl ⟨by rfl, Or.inl ?hy11⟩) ?rest11
        case hy11 => (intro w' kk ss; obtain ⟨x0, x1⟩ := HC6.out _ (hr0.trans kk); obtain ⟨z0, z1⟩ := HD6.out _ (hr0.trans kk); go_simp; first | done | with_reducible rfl)
        try simp only [Act.put, List.setIfInBounds_toArray, List.set_cons_zero, List.set_cons_succ]
        refine' Reg.wpG_take (i := 2) (oi := { dst := some 32, op := Op.binOp BinOp.add 2 (Operand.tmp 31) (Operand.const (Value.int IntKind.i64 1)) 2, type := 2, pos := "ref.go:46", after := #[{ on := 1, ground := Ground.data }], guard := none }) (v := _) [8] [] rfl rfl (by kernel_rfl) (by kernel_rfl) (by kernel_rfl) (by kernel_rfl) (by kernel_rfl) (by kernel_rfl) (by kernel_rfl) (fun _ _ _ h => h) (Or.inl ⟨by rfl, Or.inl ?hy12⟩) ?rest12
        case hy12 => (intro w' kk ss; obtain ⟨x0, x1⟩ := HC6.out _ (hr0.trans kk); obtain ⟨z0, z1⟩ := HD6.out _ (hr0.trans kk); go_simp; first | done | with_reducible rfl)
        try simp only [Act.put, List.setIfInBounds_toArray, List.set_cons_zero, List.set_cons_succ]
        refine' Reg.wpG_take (i := 3) (oi := { dst := some 33, op := Op.move (Operand.tmp 0), type := 22, pos := "ref.go:46", after := #[], guard := none }) (v := _) [5, 6, 7, 8] [] rfl rfl (by kernel_rfl) (by kernel_rfl) (by kernel_rfl) (by kernel_rfl) (by kernel_rfl) (by kernel_rfl) (by kernel_rfl) (fun _ _ _ h => h) (Or.inl ⟨by rfl, Or.inl ?hy13⟩) ?rest13
        case hy13 => (intro w' kk ss; obtain ⟨x0, x1⟩ := HC6.out _ (hr0.trans kk); obtain ⟨z0, z1⟩ := HD6.out _ (hr0.trans kk); go_simp; first | done | with_reducible rfl)
        try simp only [Act.put, List.setIfInBounds_toArray, List.set_cons_zero, List.set_cons_succ]
        refine' Reg.wpG_take (i := 4) (oi := { dst := some 34, op := Op.move (Operand.tmp 7), type := 3, pos := "ref.go:46", after := #[], guard := none }) (v := _) [5, 6, 7, 8] [] rfl rfl (by kernel_rfl) (by kernel_rfl) (by kernel_rfl) (by kernel_rfl) (by kernel_rfl) (by kernel_rfl) (by kernel_rfl) (fun _ _ _ h => h) (Or.inl ⟨by rfl, Or.inl ?hy14⟩) ?rest14
        case hy14 => (intro w' kk ss; obtain ⟨x0, x1⟩ := HC6.out _ (hr0.trans kk); obtain ⟨z0, z1⟩ := HD6.out _ (hr0.trans kk); go_simp; first | done | with_reducible rfl)
        try simp only [Act.put, List.setIfInBounds_toArray, List.set_cons_zero, List.set_cons_succ]
        refine' Reg.wpG_take (i := 5) (oi := { dst := some 35, op := Op.indexAddr 22 (Operand.tmp 33) (Operand.tmp 34), type := 0, pos := "ref.go:46", after := #[{ on := 3, ground := Ground.data }, { on := 4, ground := Ground.data }], guard := none }) (v := _) [6, 7, 8] [] rfl rfl (by kernel_rfl) (by kernel_rfl) (by kernel_rfl) (by kernel_rfl) (by kernel_rfl) (by kernel_rfl) (by kernel_rfl) (fun _ _ _ h => h) (Or.inl ⟨by rfl, Or.inl ?hy15⟩) ?rest15
        case hy15 => (intro w' kk ss; obtain ⟨x0, x1⟩ := HC6.out _ (hr0.trans kk); obtain ⟨z0, z1⟩ := HD6.out _ (hr0.trans kk); go_simp; first | done | with_reducible rfl)
        try simp only [Act.put, List.setIfInBounds_toArray, List.set_cons_zero, List.set_cons_succ]
        refine' Reg.wpG_take (i := 6) (oi := { dst := some 36, op := Op.fieldAddr 32 (Operand.tmp 35) 0, type := 0, pos := "ref.go:46", after := #[{ on := 5, ground := Ground.data }], guard := none }) (v := _) [7, 8] [] rfl rfl (by kernel_rfl) (by kernel_rfl) (by kernel_rfl) (by kernel_rfl) (by kernel_rfl) (by kernel_rfl) (by kernel_rfl) (fun _ _ _ h => h) (Or.inl ⟨by rfl, Or.inl ?hy16⟩) ?rest16
        case hy16 => (intro w' kk ss; obtain ⟨x0, x1⟩ := HC6.out _ (hr0.trans kk); obtain ⟨z0, z1⟩ := HD6.out _ (hr0.trans kk); go_simp; first | done | with_reducible rfl)
        try simp only [Act.put, List.setIfInBounds_toArray, List.set_cons_zero, List.set_cons_succ]
        refine' Reg.wpG_take (i := 7) (oi := { dst := some 37, op := Op.load 2 (Operand.tmp 36), type := 2, pos := "ref.go:46", after := #[{ on := 6, ground := Ground.data }], guard := none }) (v := _) [8] [] rfl rfl (by kernel_rfl) (by kernel_rfl) (by kernel_rfl) (by kernel_rfl) (by kernel_rfl) (by kernel_rfl) (by kernel_rfl) (fun _ _ _ h => h) (Or.inl ⟨by rfl, Or.inl ?hy17⟩) ?rest17
        case hy17 => (intro w' kk ss; obtain ⟨x0, x1⟩ := HC6.out _ (hr0.trans kk); obtain ⟨z0, z1⟩ := HD6.out _ (hr0.trans kk); go_simp; first | done | with_reducible rfl)
        try simp only [Act.put, List.setIfInBounds_toArray, List.set_cons_zero, List.set_cons_succ]
        refine' Reg.wpG_take (i := 8) (oi := { dst := some 38, op := Op.binOp BinOp.lss 2 (Operand.tmp 32) (Operand.tmp 37) 2, type := 4, pos := "ref.go:46", after := #[{ on := 2, ground := Ground.data }, { on := 7, ground := Ground.data }], guard := none }) (v := _) [] [] rfl rfl (by kernel_rfl) (by kernel_rfl) (by kernel_rfl) (by kernel_rfl) (by kernel_rfl) (by kernel_rfl) (by kernel_rfl) (fun _ _ _ h => h) (Or.inl ⟨by rfl, Or.inl ?hy18⟩) ?rest18
        case hy18 => (intro w' kk ss; obtain ⟨x0, x1⟩ := HC6.out _ (hr0.trans kk); obtain ⟨z0, z1⟩ := HD6.out _ (hr0.trans kk); go_simp; first | done | with_reducible rfl)
        try simp only [Act.put, List.setIfInBounds_toArray, List.set_cons_zero, List.set_cons_succ]
        refine Reg.wpG_done (by kernel_rfl) (fun w8 ke se => ?_) _
        refine NoPanic.normal ?_
        have hr0 := hr0.trans ke
        clear ke
        have HC8 := Lib.hid (fun W (kk : Since w8 W) => HC6.out W (hr0.trans kk))
        have HO8 := Lib.hid (owns_since HO6.out hr0)
        have HB8 := Lib.hid (HB6.out.since hr0)
        have HW8 := Lib.hid (HW6.out.trans hr0)
        have hsz8 := Nat.le_trans hsz6 hr0.size
        clear hr0 HC6 HO6 HD6 HB6 HW6
        obtain ⟨x0, x1⟩ := HC8.out _ (Since.refl _)
        obtain ⟨z0, z1⟩ := HB8.out.two
        by_cases c2 : r1 + 1 < y0
        · cases la with
          | true =>
            have HE := Lib.hid (joinT_b ST.out (Int.not_lt.2 C1.out) c2)
            clear ST
            go_wp2_with (at_builtin; refine wpList_appb (owns_since HO8.out (since_alloc _ _)) (by have := hsz8; simp; omega) HX.out hxl (y0, y1) w8.heap.size 1 (by simpa using Bx.fresh w8 #[.int .i64 y0, .int .i64 y1] 32) (by rfl) _ _ rfl rfl rfl ?_; intro A3 c3 w3 h3 q3)
            have B3 := Lib.hid (bx_grown (owns_since HO8.out (since_alloc _ _)) (HB8.out.since (since_alloc _ _)) (by omega) q3)
            have S3 := Lib.hid (since_grown (owns_since HO8.out (since_alloc _ _)) (HW8.out.trans (since_alloc _ _)) (by omega) q3)
            have hs3 := Nat.le_trans (Nat.le_trans hsz8 (since_alloc _ _).size) q3.size
            have H3 := Lib.hid h3
            clear h3 q3
            go_wp2
            go_roundw
            case rel => exact ⟨k + 1, A3, m + 1, c3, _, r0, r1, true, by go_num, rfl, rfl, by omega, by omega, hrr, hs3, by rw [List.length_append, HX.out]; rfl, H3.out, B3.out, S3.out, HE.out⟩
            case measure => simp [intOf]; omega
          | false =>
            have HE := Lib.hid (joinT_c ST.out (Int.not_lt.2 C1.out) c2)
            clear ST
            go_wp2_with (first | (at_builtin; refine wpList_appb (owns_since HO8.out (since_alloc _ _)) (by have := hsz8; simp; omega) HX.out hxl (r0, r1) w8.heap.size 1 (by simpa using Bx.fresh w8 #[.int .i64 r0, .int .i64 r1] 32) (by rfl) _ _ rfl rfl rfl ?_; intro A3 c3 w3 h3 q3; have B3 := Lib.hid (bx_grown (owns_since HO8.out (since_alloc _ _)) (HB8.out.since (since_alloc _ _)) (by omega) q3); have S3 := Lib.hid (since_grown (owns_since HO8.out (since_alloc _ _)) (HW8.out.trans (since_alloc _ _)) (by omega) q3); have hs3 := Nat.le_trans (Nat.le_trans hsz8 (since_alloc _ _).size) q3.size; have H3 := Lib.hid h3; obtain ⟨x0, x1⟩ := (show w3.cell? ⟨g, o + k * 2, none⟩ = some (.int .i64 y0) ∧ w3.cell? ⟨g, o + k * 2 + 1, none⟩ = some (.int .i64 y1) from ⟨(S3.out.cell _ (World.block_lt_of_cell? _ _ E0.out)).trans E0.out, (S3.out.cell _ (World.block_lt_of_cell? _ _ E1.out)).trans E1.out⟩); clear h3 q3) | (at_builtin; refine wpList_appb (owns_since H3.out (since_alloc _ _)) (by have := hs3; simp; omega) (show (xs ++ [(r0, r1)]).length = m + 1 by rw [List.length_append, HX.out]; rfl) (by omega) (y0, y1) w3.heap.size 1 (by simpa using Bx.fresh w3 #[.int .i64 y0, .int .i64 y1] 32) (by rfl) _ _ rfl rfl rfl ?_; intro A4 c4 w4 h4 q4))
            have B4 := Lib.hid (bx_grown (owns_since H3.out (since_alloc _ _)) (B3.out.since (since_alloc _ _)) (by omega) q4)
            have S4 := Lib.hid (since_grown (owns_since H3.out (since_alloc _ _)) (S3.out.trans (since_alloc _ _)) (by omega) q4)
            have hs4 := Nat.le_trans (Nat.le_trans hs3 (since_alloc _ _).size) q4.size
            have H4 := Lib.hid h4
            clear h4 q4
            go_wp2
            go_roundw
            case rel => exact ⟨k + 1, A4, m + 1 + 1, c4, _, r0, r1, true, by go_num, rfl, rfl, by omega, by omega, hrr, hs4, by rw [List.length_append, List.length_append, HX.out]; rfl, H4.out, B4.out, S4.out, HE.out⟩
            case measure => simp [intOf]; omega
        · have HD8 := Lib.hid (fun W (kk : Since w8 W) => (HB8.out.since kk).two)
          have HL := Lib.hid (fun a b => joinT_d ST.out (Int.not_lt.2 C1.out) c2 a b)
          clear ST x0 x1 z0 z1
          go_wp2
          have hr0 : Since w8 w8.drew := Since.drew (Since.refl w8)
          refine wp_region_noPanic ?_
          refine Reg.wp_region_G (S := fun _ => True) (fun j => [17].contains j) (by kernel_rfl) trivial ?_
          refine' Reg.wpG_take (i := 0) (oi := { dst := some 52, op := Op.fieldAddr 32 (Operand.tmp 3) 0, type := 0, pos := "ref.go:54", after := #[], guard := none }) (v := _) [1, 7, 16, 17] [17] rfl rfl (by kernel_rfl) (by kernel_rfl) (by kernel_rfl) (by kernel_rfl) (by kernel_rfl) (by kernel_rfl) (by kernel_rfl) (fun _ _ _ h => h) (Or.inl ⟨by rfl, Or.inl ?hy19⟩) ?rest19
          case hy19 => (intro w' kk ss; obtain ⟨x0, x1⟩ := HC8.out _ (hr0.trans kk); obtain ⟨z0, z1⟩ := HD8.out _ (hr0.trans kk); go_simp; first | done | with_reducible rfl)
          try simp only [Act.put, List.setIfInBounds_toArray, List.set_cons_zero, List.set_cons_succ]
          refine' Reg.wpG_take (i := 1) (oi := { dst := some 53, op := Op.load 2 (Operand.tmp 52), type := 2, pos := "ref.go:54", after := #[{ on := 0, ground := Ground.data }], guard := none }) (v := _) [7, 16, 17] [17] rfl rfl (by kernel_rfl) (by kernel_rfl) (by kernel_rfl) (by kernel_rfl) (by kernel_rfl) (by kernel_rfl) (by kernel_rfl) (fun _ _ _ h => h) (Or.inl ⟨by rfl, Or.inl ?hy20⟩) ?rest20
          case hy20 => (intro w' kk ss; obtain ⟨x0, x1⟩ := HC8.out _ (hr0.trans kk); obtain ⟨z0, z1⟩ := HD8.out _ (hr0.trans kk); go_simp; first | done | with_reducible rfl)
          try simp only [Act.put, List.setIfInBounds_toArray, List.set_cons_zero, List.set_cons_succ]
          refine' Reg.wpG_take (i := 2) (oi := { dst := some 54, op := Op.move (Operand.tmp 0), type := 22, pos := "ref.go:54", after := #[], guard := none }) (v := _) [4, 5, 6, 7, 16, 17] [17] rfl rfl (by kernel_rfl) (by kernel_rfl) (by kernel_rfl) (by kernel_rfl) (by kernel_rfl) (by kernel_rfl) (by kernel_rfl) (fun _ _ _ h => h) (Or.inl ⟨by rfl, Or.inl ?hy21⟩) ?rest21
          case hy21 => (intro w' kk ss; obtain ⟨x0, x1⟩ := HC8.out _ (hr0.trans kk); obtain ⟨z0, z1⟩ := HD8.out _ (hr0.trans kk); go_simp; first | done | with_reducible rfl)
          try simp only [Act.put, List.setIfInBounds_toArray, List.set_cons_zero, List.set_cons_succ]
          refine' Reg.wpG_take (i := 3) (oi := { dst := some 55, op := Op.move (Operand.tmp 7), type := 3, pos := "ref.go:54", after := #[], guard := none }) (v := _) [4, 5, 6, 7, 16, 17] [17] rfl rfl (by kernel_rfl) (by kernel_rfl) (by kernel_rfl) (by kernel_rfl) (by kernel_rfl) (by kernel_rfl) (by kernel_rfl) (fun _ _ _ h => h) (Or.inl ⟨by rfl, Or.inl ?hy22⟩) ?rest22
          case hy22 => (intro w' kk ss; obtain ⟨x0, x1⟩ := HC8.out _ (hr0.trans kk); obtain ⟨z0, z1⟩ := HD8.out _ (hr0.trans kk); go_simp; first | done | with_reducible rfl)
          try simp only [Act.put, List.setIfInBounds_toArray, List.set_cons_zero, List.set_cons_succ]
          refine' Reg.wpG_take (i := 4) (oi := { dst := some 56, op := Op.indexAddr 22 (Operand.tmp 54) (Operand.tmp 55), type := 0, pos := "ref.go:54", after := #[{ on := 2, ground := Ground.data }, { on := 3, ground := Ground.data }], guard := none }) (v := _) [5, 6, 7, 16, 17] [17] rfl rfl (by kernel_rfl) (by kernel_rfl) (by kernel_rfl) (by kernel_rfl) (by kernel_rfl) (by kernel_rfl) (by kernel_rfl) (fun _ _ _ h => h) (Or.inl ⟨by rfl, Or.inl ?hy23⟩) ?rest23
          case hy23 => (intro w' kk ss; obtain ⟨x0, x1⟩ := HC8.out _ (hr0.trans kk); obtain ⟨z0, z1⟩ := HD8.out _ (hr0.trans kk); go_simp; first | done | with_reducible rfl)
          try simp only [Act.put, List.setIfInBounds_toArray, List.set_cons_zero, List.set_cons_succ]
          refine' Reg.wpG_take (i := 5) (oi := { dst := some 57, op := Op.fieldAddr 32 (Operand.tmp 56) 0, type := 0, pos := "ref.go:54", after := #[{ on := 4, ground := Ground.data }], guard := none }) (v := _) [6, 7, 16, 17] [17] rfl rfl (by kernel_rfl) (by kernel_rfl) (by kernel_rfl) (by kernel_rfl) (by kernel_rfl) (by kernel_rfl) (by kernel_rfl) (fun _ _ _ h => h) (Or.inl ⟨by rfl, Or.inl ?hy24⟩) ?rest24
          case hy24 => (intro w' kk ss; obtain ⟨x0, x1⟩ := HC8.out _ (hr0.trans kk); obtain ⟨z0, z1⟩ := HD8.out _ (hr0.trans kk); go_simp; first | done | with_reducible rfl)
          try simp only [Act.put, List.setIfInBounds_toArray, List.set_cons_zero, List.set_cons_succ]
          refine' Reg.wpG_take (i := 6) (oi := { dst := some 58, op := Op.load 2 (Operand.tmp 57), type := 2, pos := "ref.go:54", after := #[{ on := 5, ground := Ground.data }], guard := none }) (v := _) [7, 16, 17] [17] rfl rfl (by kernel_rfl) (by kernel_rfl) (by kernel_rfl) (by kernel_rfl) (by kernel_rfl) (by kernel_rfl) (by kernel_rfl) (fun _ _ _ h => h) (Or.inl ⟨by rfl, Or.inl ?hy25⟩) ?rest25
          case hy25 => (intro w' kk ss; obtain ⟨x0, x1⟩ := HC8.out _ (hr0.trans kk); obtain ⟨z0, z1⟩ := HD8.out _ (hr0.trans kk); go_simp; first | done | with_reducible rfl)
          try simp only [Act.put, List.setIfInBounds_toArray, List.set_cons_zero, List.set_cons_succ]
          refine' Reg.wpG_take (i := 7) (oi := { dst := some 59, op := Op.call { callee := Callee.builtin Builtin.min, args := #[Operand.tmp 53, Operand.tmp 58], argTypes := #[2, 2] }, type := 2, pos := "ref.go:54", after := #[{ on := 1, ground := Ground.data }, { on := 6, ground := Ground.data }], guard := none }) (v := _) [16, 17] [17] rfl rfl (by kernel_rfl) (by kernel_rfl) (by kernel_rfl) (by kernel_rfl) (by kernel_rfl) (by kernel_rfl) (by kernel_rfl) (fun _ _ _ h => h) (Or.inl ⟨by rfl, Or.inl ?hy26⟩) ?rest26
          case hy26 => (intro w' kk ss; obtain ⟨x0, x1⟩ := HC8.out _ (hr0.trans kk); obtain ⟨z0, z1⟩ := HD8.out _ (hr0.trans kk); go_simp; first | done | with_reducible rfl)
          try simp only [Act.put, List.setIfInBounds_toArray, List.set_cons_zero, List.set_cons_succ]
          refine' Reg.wpG_take (i := 8) (oi := { dst := some 60, op := Op.fieldAddr 32 (Operand.tmp 3) 1, type := 0, pos := "ref.go:54", after := #[], guard := none }) (v := _) [9, 15, 16, 17] [17] rfl rfl (by kernel_rfl) (by kernel_rfl) (by kernel_rfl) (by kernel_rfl) (by kernel_rfl) (by kernel_rfl) (by kernel_rfl) (fun _ _ _ h => h) (Or.inl ⟨by rfl, Or.inl ?hy27⟩) ?rest27
          case hy27 => (intro w' kk ss; obtain ⟨x0, x1⟩ := HC8.out _ (hr0.trans kk); obtain ⟨z0, z1⟩ := HD8.out _ (hr0.trans kk); go_simp; first | done | with_reducible rfl)
          try simp only [Act.put, List.setIfInBounds_toArray, List.set_cons_zero, List.set_cons_succ]
          refine' Reg.wpG_take (i := 9) (oi := { dst := some 61, op := Op.load 2 (Operand.tmp 60), type := 2, pos := "ref.go:54", after := #[{ on := 8, ground := Ground.data }], guard := none }) (v := _) [15, 16, 17] [17] rfl rfl (by kernel_rfl) (by kernel_rfl) (by kernel_rfl) (by kernel_rfl) (by kernel_rfl) (by kernel_rfl) (by kernel_rfl) (fun _ _ _ h => h) (Or.inl ⟨by rfl, Or.inl ?hy28⟩) ?rest28
          case hy28 => (intro w' kk ss; obtain ⟨x0, x1⟩ := HC8.out _ (hr0.trans kk); obtain ⟨z0, z1⟩ := HD8.out _ (hr0.trans kk); go_simp; first | done | with_reducible rfl)
          try simp only [Act.put, List.setIfInBounds_toArray, List.set_cons_zero, List.set_cons_succ]
          refine' Reg.wpG_take (i := 10) (oi := { dst := some 62, op := Op.move (Operand.tmp 0), type := 22, pos := "ref.go:54", after := #[], guard := none }) (v := _) [12, 13, 14, 15, 16, 17] [17] rfl rfl (by kernel_rfl) (by kernel_rfl) (by kernel_rfl) (by kernel_rfl) (by kernel_rfl) (by kernel_rfl) (by kernel_rfl) (fun _ _ _ h => h) (Or.inl ⟨by rfl, Or.inl ?hy29⟩) ?rest29
          case hy29 => (intro w' kk ss; obtain ⟨x0, x1⟩ := HC8.out _ (hr0.trans kk); obtain ⟨z0, z1⟩ := HD8.out _ (hr0.trans kk); go_simp; first | done | with_reducible rfl)
          try simp only [Act.put, List.setIfInBounds_toArray, List.set_cons_zero, List.set_cons_succ]
          refine' Reg.wpG_take (i := 11) (oi := { dst := some 63, op := Op.move (Operand.tmp 7), type := 3, pos := "ref.go:54", after := #[], guard := none }) (v := _) [12, 13, 14, 15, 16, 17] [17] rfl rfl (by kernel_rfl) (by kernel_rfl) (by kernel_rfl) (by kernel_rfl) (by kernel_rfl) (by kernel_rfl) (by kernel_rfl) (fun _ _ _ h => h) (Or.inl ⟨by rfl, Or.inl ?hy30⟩) ?rest30
          case hy30 => (intro w' kk ss; obtain ⟨x0, x1⟩ := HC8.out _ (hr0.trans kk); obtain ⟨z0, z1⟩ := HD8.out _ (hr0.trans kk); go_simp; first | done | with_reducible rfl)
          try simp only [Act.put, List.setIfInBounds_toArray, List.set_cons_zero, List.set_cons_succ]
          refine' Reg.wpG_take (i := 12) (oi := { dst := some 64, op := Op.indexAddr 22 (Operand.tmp 62) (Operand.tmp 63), type := 0, pos := "ref.go:54", after := #[{ on := 10, ground := Ground.data }, { on := 11, ground := Ground.data }], guard := none }) (v := _) [13, 14, 15, 16, 17] [17] rfl rfl (by kernel_rfl) (by kernel_rfl) (by kernel_rfl) (by kernel_rfl) (by kernel_rfl) (by kernel_rfl) (by kernel_rfl) (fun _ _ _ h => h) (Or.inl ⟨by rfl, Or.inl ?hy31⟩) ?rest31
          case hy31 => (intro w' kk ss; obtain ⟨x0, x1⟩ := HC8.out _ (hr0.trans kk); obtain ⟨z0, z1⟩ := HD8.out _ (hr0.trans kk); go_simp; first | done | with_reducible rfl)
          try simp only [Act.put, List.setIfInBounds_toArray, List.set_cons_zero, List.set_cons_succ]
          refine' Reg.wpG_take (i := 13) (oi := { dst := some 65, op := Op.fieldAddr 32 (Operand.tmp 64) 1, type := 0, pos := "ref.go:54", after := #[{ on := 12, ground := Ground.data }], guard := none }) (v := _) [14, 15, 16, 17] [17] rfl rfl (by kernel_rfl) (by kernel_rfl) (by kernel_rfl) (by kernel_rfl) (by kernel_rfl) (by kernel_rfl) (by kernel_rfl) (fun _ _ _ h => h) (Or.inl ⟨by rfl, Or.inl ?hy32⟩) ?rest32
          case hy32 => (intro w' kk ss; obtain ⟨x0, x1⟩ := HC8.out _ (hr0.trans kk); obtain ⟨z0, z1⟩ := HD8.out _ (hr0.trans kk); go_simp; first | done | with_reducible rfl)
          try simp only [Act.put, List.setIfInBounds_toArray, List.set_cons_zero, List.set_cons_succ]
          refine' Reg.wpG_take (i := 14) (oi := { dst := some 66, op := Op.load 2 (Operand.tmp 65), type := 2, pos := "ref.go:54", after := #[{ on := 13, ground := Ground.data }], guard := none }) (v := _) [15, 16, 17] [17] rfl rfl (by kernel_rfl) (by kernel_rfl) (by kernel_rfl) (by kernel_rfl) (by kernel_rfl) (by kernel_rfl) (by kernel_rfl) (fun _ _ _ h => h) (Or.inl ⟨by rfl, Or.inl ?hy33⟩) ?rest33
          case hy33 => (intro w' kk ss; obtain ⟨x0, x1⟩ := HC8.out _ (hr0.trans kk); obtain ⟨z0, z1⟩ := HD8.out _ (hr0.trans kk); go_simp; first | done | with_reducible rfl)
          try simp only [Act.put, List.setIfInBounds_toArray, List.set_cons_zero, List.set_cons_succ]
          refine' Reg.wpG_take (i := 15) (oi := { dst := some 67, op := Op.call { callee := Callee.builtin Builtin.max, args := #[Operand.tmp 61, Operand.tmp 66], argTypes := #[2, 2] }, type := 2, pos := "ref.go:54", after := #[{ on := 9, ground := Ground.data }, { on := 14, ground := Ground.data }], guard := none }) (v := _) [16, 17] [17] rfl rfl (by kernel_rfl) (by kernel_rfl) (by kernel_rfl) (by kernel_rfl) (by kernel_rfl) (by kernel_rfl) (by kernel_rfl) (fun _ _ _ h => h) (Or.inl ⟨by rfl, Or.inl ?hy34⟩) ?rest34
          case hy34 => (intro w' kk ss; obtain ⟨x0, x1⟩ := HC8.out _ (hr0.trans kk); obtain ⟨z0, z1⟩ := HD8.out _ (hr0.trans kk); go_simp; first | done | with_reducible rfl)
          try simp only [Act.put, List.setIfInBounds_toArray, List.set_cons_zero, List.set_cons_succ]
          refine' Reg.wpG_take (i := 16) (oi := { dst := some 68, op := Op.build 32 #[(0, Operand.tmp 59), (1, Operand.tmp 67)], type := 32, pos := "ref.go:54", after := #[{ on := 7, ground := Ground.data }, { on := 15, ground := Ground.data }], guard := none }) (v := _) [17] [17] rfl rfl (by kernel_rfl) (by kernel_rfl) (by kernel_rfl) (by kernel_rfl) (by kernel_rfl) (by kernel_rfl) (by kernel_rfl) (fun _ _ _ h => h) (Or.inl ⟨by rfl, Or.inl ?hy35⟩) ?rest35
          case hy35 => (intro w' kk ss; obtain ⟨x0, x1⟩ := HC8.out _ (hr0.trans kk); obtain ⟨z0, z1⟩ := HD8.out _ (hr0.trans kk); go_simp; first | done | with_reducible rfl)
          try simp only [Act.put, List.setIfInBounds_toArray, List.set_cons_zero, List.set_cons_succ]
          refine Reg.wpG_ready (rs := [17]) (by kernel_rfl) (by simp) (fun wq kq sq => ?_)
          have hr0 := hr0.trans kq
          refine Reg.AllG.last (o := { dst := none, op := Op.store 32 (Operand.tmp 3) (Operand.tmp 68), type := 0, pos := "ref.go:54", after := #[{ on := 16, ground := Ground.data }, { on := 0, ground := Ground.phase }, { on := 1, ground := Ground.phase }, { on := 2, ground := Ground.phase }, { on := 3, ground := Ground.phase }, { on := 4, ground := Ground.phase }, { on := 5, ground := Ground.phase }, { on := 6, ground := Ground.phase }, { on := 7, ground := Ground.phase }, { on := 8, ground := Ground.phase }, { on := 9, ground := Ground.phase }, { on := 10, ground := Ground.phase }, { on := 11, ground := Ground.phase }, { on := 12, ground := Ground.phase }, { on := 13, ground := Ground.phase }, { on := 14, ground := Ground.phase }, { on := 15, ground := Ground.phase }, { on := 16, ground := Ground.phase }], guard := none }) rfl (by rfl) (fun K hK => ?_) Reg.AllG.nil
          obtain ⟨f0, f1⟩ := (HB8.out.since hr0).two
          obtain ⟨g0, g1⟩ := (HB8.out.since hr0).two'
          go_simp
          refine hK.out _ _ trivial (fun hHeld => ?_)
          clear hK K
          try simp only [Act.put, List.setIfInBounds_toArray, List.set_cons_zero, List.set_cons_succ]
          refine wpAnyH_done (by kernel_rfl) ?_ _
          refine NoPanic.normal ?_
          have HM1 := Lib.hid (show (if y0 < r0 then y0 else r0) = min r0 y0 by split <;> omega)
          have HM2 := Lib.hid (show (if r1 < y1 then y1 else r1) = max r1 y1 by split <;> omega)
          generalize (if y0 < r0 then y0 else r0) = M1 at *
          generalize (if r1 < y1 then y1 else r1) = M2 at *
          have HE := Lib.hid (HL.out M1 M2 HM1.out HM2.out)
          have hM1 := HM1.out
          have hM2 := HM2.out
          have HB9 := Lib.hid ((HB8.out.since hr0).put2 (.int .i64 M1) (.int .i64 M2))
          have HO9 := Lib.hid (owns_put2 (b := w.heap.size) (owns_since HO8.out hr0) (by omega) (.int .i64 M1) (.int .i64 M2))
          have HW9 := Lib.hid (since_put2 (HW8.out.trans hr0) (Nat.le_refl _) (.int .i64 M1) (.int .i64 M2))
          have hsz9 : w.heap.size + 1 ≤ (put2 wq w.heap.size (.int .i64 M1) (.int .i64 M2)).heap.size := by have := hr0.size; simp [put2]; omega
          unfold put2 at HB9 HO9 HW9 hsz9
          obtain ⟨W2, hW2⟩ : ∃ W2, W2 = (wq.setCell ⟨w.heap.size, 0, none⟩ (.int .i64 M1)).setCell ⟨w.heap.size, 1, none⟩ (.int .i64 M2) := ⟨_, rfl⟩
          rw [← hW2] at HB9 HO9 HW9 hsz9 ⊢
          clear HM1 HM2 HL HC8 HD8 HB8 HO8 HW8 hr0 hHeld sq kq hW2
          go_wp2
          go_roundw
          case rel => exact ⟨k + 1, A2, m, d2, xs, M1, M2, la, by go_num, rfl, rfl, by omega, by omega, ⟨by omega, by omega, by omega, by omega⟩, hsz9, HX.out, HO9.out, HB9.out, HW9.out, HE.out⟩
          case measure => simp [intOf]; omega
    · obtain rfl : k = n := by omega
      have hd0 : l.drop k = [] := List.drop_of_length_le (by have := HN.out; omega)
      have HE0 := HE.out
      rw [hd0, joinT] at HE0
      obtain ⟨z0, z1⟩ := HB.out.two
      cases la with
      | true =>
        have HE2 := Lib.hid (show xs = R by rw [← HE0]; simp)
        clear HE0 hd0
        go_wp2
        go_ret
        have hx := HX.out
        exact ⟨A2, m, d2, rfl, by rw [← HE2.out]; exact hx, by rw [← HE2.out]; exact Sl.own HO.out (rcells_rws _ _) hx.symm, HW.out⟩
      | false =>
        have HE2 := Lib.hid (show xs ++ [(r0, r1)] = R by rw [← HE0]; simp)
        clear HE0 hd0
        go_wp2_with (at_builtin; refine wpList_appb (owns_since HO.out (since_alloc _ _)) (by have := hszr; simp; omega) HX.out (by omega) (r0, r1) wr.heap.size 1 (by simpa using Bx.fresh wr #[.int .i64 r0, .int .i64 r1] 32) (by rfl) _ _ rfl rfl rfl ?_; intro A3 c3 w3 h3 q3)
        have S3 := Lib.hid (since_grown (owns_since HO.out (since_alloc _ _)) (HW.out.trans (since_alloc _ _)) (by omega) q3)
        have hx : (xs ++ [(r0, r1)]).length = m + 1 := by rw [List.length_append, HX.out]; rfl
        have H3 := Lib.hid h3
        clear h3 q3
        go_wp2
        go_ret
        exact ⟨A3, m + 1, c3, rfl, by rw [← HE2.out]; exact hx, by rw [← HE2.out]; exact Sl.own H3.out (rcells_rws _ _) hx.symm, S3.out⟩
end Go.Proofs.Ytdlbfpodgjkimaa.Zs
