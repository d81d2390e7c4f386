/- What Ours of layer 6's law gives back: the same items, in a row of the call's own. -/
import Derived.Test.YtgcfemnigpjadaaDoorL6a
import Derived.Test.YtgcfemnigpjadaaDoorAp6
import Derived.Test.YtgcfemnigpjadaaDoorReg
namespace Go.Proofs.YtgcfemnigpjadaaDoor.Law06
open Go.RowKit
set_option linter.unusedVariables false
set_option linter.unusedSimpArgs false
open Go.Proofs.YtgcfemnigpjadaaDoor.Dig Go.Proofs.YtgcfemnigpjadaaDoor.Lx Go.Proofs.YtgcfemnigpjadaaDoor.Tk Go.Proofs.YtgcfemnigpjadaaDoor.Ps Go.Proofs.YtgcfemnigpjadaaDoor.Ti

theorem info_ritem : (Tryd.prog.info? 51).map (fun i => (i.zero, i.size, i.bytes)) = some (some (.agg #[.int .i64 0, .string ⟨#[]⟩, .bool false, .slice none 0 0, .int .i64 0, .bool false, .slice none 0 0, .int .i64 0]), 8, 104) := by kernel_rfl
/-- ends with a row of the call's own that reads as these items; what they hang on lies neither in it nor in G -/
def RetI (G : Nat → Prop) (xs : List It) (w : World) (x : Ending) (w' : World) : Prop :=
  ∃ A c cs, x = .returned (.slice A xs.length c) ∧ w'.ownsRow w.heap.size 51 8 (.slice A xs.length c) xs.length cs ∧ Rws 8 (QI (own G (.slice A xs.length c)) w') xs cs ∧ Since w w'
set_option maxRecDepth 100000 in
set_option maxHeartbeats 4000000 in
theorem ours_any (v : Value) (xs : List It) (w : World) (G : Nat → Prop) (h : Sl 8 (QI G) w v xs) (hG : ∀ b, G b → b < w.heap.size) (hn : xs.length ≤ 10000) (hm : ∀ x ∈ xs, x.vals.length ≤ 10000 ∧ ∀ y ∈ x.vals, y.l.length ≤ 10000) :
    Calls Tryd.prog 11 #[v] w (RetI G xs w) := by
  have H := Lib.hid h
  obtain ⟨A0, c0, rfl⟩ := h.form
  clear h
  obtain ⟨i0, hi, hz0, hz1, hz2⟩ := info_parts info_ritem
  obtain ⟨n, hnn⟩ : ∃ n, n = xs.length := ⟨_, rfl⟩
  rw [← hnn] at H hn
  rw [← hnn]
  have HN := Lib.hid hnn
  have HM := Lib.hid hm
  have HG := Lib.hid hG
  clear hnn hm hG
  go_enter Tryd.func11, Tryd.ntmps11
  go_wp2
  go_loopw [3, 8] (fun out i wr => ∃ (k : Nat) (A : Option Addr) (c : Nat) (cs : List Value), k ≤ n ∧ i = .int .i64 (k : Int) ∧ out = .slice A k c ∧ Hid (wr.ownsRow w.heap.size 51 8 (.slice A k c) k cs) ∧ Hid (Rws 8 (QI (own G (.slice A k c)) wr) (xs.take k) cs) ∧ Since w wr) (fun _ i _ => n - (intOf i).toNat)
  case atStart => exact ⟨0, none, 0, [], Nat.zero_le _, rfl, rfl, World.ownsRow_nil _ _ _ _, .nil, Since.refl _⟩
  case round =>
    obtain ⟨k, A, c, cs, hk, rfl, rfl, HO, HR, hw⟩ := hrel
    by_cases hlt : k < n
    · have hkx : k < xs.length := by have := HN.out; omega
      obtain ⟨b, o, A1, c1, A2, c2, rfl, hd, hdf, hv, h0, h1, h2, h3, h4, h5, h6, h7⟩ := elI2 H.out hw hkx
      have hst := takeR hkx
      have hml := HM.out xs[k] (List.getElem_mem hkx)
      obtain ⟨x, hx⟩ : ∃ x, x = xs[k] := ⟨_, rfl⟩
      rw [← hx] at hd hdf hv h0 h1 h2 h3 h4 h5 h6 h7 hst hml
      obtain ⟨ki, nm, bo, dm, sz, ou, vs, ak⟩ := x
      simp only at hd hdf hv h0 h1 h2 h3 h4 h5 h6 h7 hml
      obtain ⟨p, hp⟩ : ∃ p, p = dm.length := ⟨_, rfl⟩
      obtain ⟨m, hm⟩ : ∃ m, m = vs.length := ⟨_, rfl⟩
      rw [← hp] at hd hdf h3
      rw [← hm] at hv h6
      obtain ⟨W1, hW1⟩ : ∃ W1, W1 = wr.alloc (.cells #[.int .i64 ki, .string nm, .bool bo, .slice A1 p c1, .int .i64 sz, .bool ou, .slice A2 m c2, .int .i64 ak] 42) := ⟨_, rfl⟩
      have hs1 : Since wr W1 := by rw [hW1]; exact since_alloc _ _
      have hsz1 : W1.heap.size = wr.heap.size + 1 := by rw [hW1]; simp
      have HX := Lib.hid (fun W (k : Since W1 W) => Box.since (us := [.int .i64 ki, .string nm, .bool bo, .slice A1 p c1, .int .i64 sz, .bool ou, .slice A2 m c2, .int .i64 ak]) (by rw [hW1]; exact Box.new _ _ _) k)
      have C := Lib.hid (fun W (k : Since W1 W) => exprs_any (.slice A2 m c2) vs W (hv.since (stX _) ((hw.trans hs1).trans k)) hml.1 hml.2)
      have HT := Lib.hid hst
      have HD := Lib.hid hd
      have HDF := Lib.hid hdf
      have HMM := Lib.hid hm
      clear hst hx hkx hv hd hdf hml hp hm
      go_wp2
      rw [← hW1]
      have HW1 := Lib.hid hW1
      clear hW1
      have hr0 : Since W1 W1.drew := Since.drew (Since.refl W1)
      refine wp_region_noPanic ?_
      refine Reg.wp_region_G (S := fun _ => True) (fun j => [20, 21].contains j) (by kernel_rfl) trivial ?_
      refine' Reg.wpG_take (i := 0) (oi := { dst := some 12, op := Op.move (Operand.tmp 3), type := 32, pos := "law.go:38", after := #[], guard := none }) (v := _) [20, 21] [20, 21] rfl rfl (by kernel_rfl) (by kernel_rfl) (by kernel_rfl) (by kernel_rfl) (by kernel_rfl) (by kernel_rfl) (by kernel_rfl) (fun _ _ _ h => h) (Or.inl ⟨by rfl, Or.inl ?hy2⟩) ?rest2
      case hy2 => (intro w' kk ss; obtain ⟨q0, q1, q2, q3, q4, q5, q6, q7⟩ := (HX.out _ (hr0.trans kk)).eight; go_simp; first | done | with_reducible rfl)
      try simp only [Act.put, List.setIfInBounds_toArray, List.set_cons_zero, List.set_cons_succ]
      refine' Reg.wpG_take (i := 1) (oi := { dst := some 13, op := Op.fieldAddr 42 (Operand.tmp 5) 0, type := 0, pos := "law.go:38", after := #[], guard := none }) (v := _) [2, 18, 19, 20, 21] [20, 21] rfl rfl (by kernel_rfl) (by kernel_rfl) (by kernel_rfl) (by kernel_rfl) (by kernel_rfl) (by kernel_rfl) (by kernel_rfl) (fun _ _ _ h => h) (Or.inl ⟨by rfl, Or.inl ?hy3⟩) ?rest3
      case hy3 => (intro w' kk ss; obtain ⟨q0, q1, q2, q3, q4, q5, q6, q7⟩ := (HX.out _ (hr0.trans kk)).eight; go_simp; first | done | with_reducible rfl)
      try simp only [Act.put, List.setIfInBounds_toArray, List.set_cons_zero, List.set_cons_succ]
      refine' Reg.wpG_take (i := 2) (oi := { dst := some 14, op := Op.load 3 (Operand.tmp 13), type := 3, pos := "law.go:38", after := #[{ on := 1, ground := Ground.data }], guard := none }) (v := _) [18, 19, 20, 21] [20, 21] rfl rfl (by kernel_rfl) (by kernel_rfl) (by kernel_rfl) (by kernel_rfl) (by kernel_rfl) (by kernel_rfl) (by kernel_rfl) (fun _ _ _ h => h) (Or.inl ⟨by rfl, Or.inl ?hy4⟩) ?rest4
      case hy4 => (intro w' kk ss; obtain ⟨q0, q1, q2, q3, q4, q5, q6, q7⟩ := (HX.out _ (hr0.trans kk)).eight; go_simp; first | done | with_reducible rfl)
      try simp only [Act.put, List.setIfInBounds_toArray, List.set_cons_zero, List.set_cons_succ]
      refine' Reg.wpG_take (i := 3) (oi := { dst := some 15, op := Op.fieldAddr 42 (Operand.tmp 5) 1, type := 0, pos := "law.go:38", after := #[], guard := none }) (v := _) [4, 18, 19, 20, 21] [20, 21] rfl rfl (by kernel_rfl) (by kernel_rfl) (by kernel_rfl) (by kernel_rfl) (by kernel_rfl) (by kernel_rfl) (by kernel_rfl) (fun _ _ _ h => h) (Or.inl ⟨by rfl, Or.inl ?hy5⟩) ?rest5
      case hy5 => (intro w' kk ss; obtain ⟨q0, q1, q2, q3, q4, q5, q6, q7⟩ := (HX.out _ (hr0.trans kk)).eight; go_simp; first | done | with_reducible rfl)
      try simp only [Act.put, List.setIfInBounds_toArray, List.set_cons_zero, List.set_cons_succ]
      refine' Reg.wpG_take (i := 4) (oi := { dst := some 16, op := Op.load 9 (Operand.tmp 15), type := 9, pos := "law.go:38", after := #[{ on := 3, ground := Ground.data }], guard := none }) (v := _) [18, 19, 20, 21] [20, 21] rfl rfl (by kernel_rfl) (by kernel_rfl) (by kernel_rfl) (by kernel_rfl) (by kernel_rfl) (by kernel_rfl) (by kernel_rfl) (fun _ _ _ h => h) (Or.inl ⟨by rfl, Or.inl ?hy6⟩) ?rest6
      case hy6 => (intro w' kk ss; obtain ⟨q0, q1, q2, q3, q4, q5, q6, q7⟩ := (HX.out _ (hr0.trans kk)).eight; go_simp; first | done | with_reducible rfl)
      try simp only [Act.put, List.setIfInBounds_toArray, List.set_cons_zero, List.set_cons_succ]
      refine' Reg.wpG_take (i := 5) (oi := { dst := some 17, op := Op.fieldAddr 42 (Operand.tmp 5) 2, type := 0, pos := "law.go:38", after := #[], guard := none }) (v := _) [6, 18, 19, 20, 21] [20, 21] rfl rfl (by kernel_rfl) (by kernel_rfl) (by kernel_rfl) (by kernel_rfl) (by kernel_rfl) (by kernel_rfl) (by kernel_rfl) (fun _ _ _ h => h) (Or.inl ⟨by rfl, Or.inl ?hy7⟩) ?rest7
      case hy7 => (intro w' kk ss; obtain ⟨q0, q1, q2, q3, q4, q5, q6, q7⟩ := (HX.out _ (hr0.trans kk)).eight; go_simp; first | done | with_reducible rfl)
      try simp only [Act.put, List.setIfInBounds_toArray, List.set_cons_zero, List.set_cons_succ]
      refine' Reg.wpG_take (i := 6) (oi := { dst := some 18, op := Op.load 4 (Operand.tmp 17), type := 4, pos := "law.go:38", after := #[{ on := 5, ground := Ground.data }], guard := none }) (v := _) [18, 19, 20, 21] [20, 21] rfl rfl (by kernel_rfl) (by kernel_rfl) (by kernel_rfl) (by kernel_rfl) (by kernel_rfl) (by kernel_rfl) (by kernel_rfl) (fun _ _ _ h => h) (Or.inl ⟨by rfl, Or.inl ?hy8⟩) ?rest8
      case hy8 => (intro w' kk ss; obtain ⟨q0, q1, q2, q3, q4, q5, q6, q7⟩ := (HX.out _ (hr0.trans kk)).eight; go_simp; first | done | with_reducible rfl)
      try simp only [Act.put, List.setIfInBounds_toArray, List.set_cons_zero, List.set_cons_succ]
      refine' Reg.wpG_take (i := 7) (oi := { dst := some 19, op := Op.fieldAddr 42 (Operand.tmp 5) 3, type := 0, pos := "law.go:38", after := #[], guard := none }) (v := _) [8, 18, 19, 20, 21] [20, 21] rfl rfl (by kernel_rfl) (by kernel_rfl) (by kernel_rfl) (by kernel_rfl) (by kernel_rfl) (by kernel_rfl) (by kernel_rfl) (fun _ _ _ h => h) (Or.inl ⟨by rfl, Or.inl ?hy9⟩) ?rest9
      case hy9 => (intro w' kk ss; obtain ⟨q0, q1, q2, q3, q4, q5, q6, q7⟩ := (HX.out _ (hr0.trans kk)).eight; go_simp; first | done | with_reducible rfl)
      try simp only [Act.put, List.setIfInBounds_toArray, List.set_cons_zero, List.set_cons_succ]
      refine' Reg.wpG_take (i := 8) (oi := { dst := some 20, op := Op.load 39 (Operand.tmp 19), type := 39, pos := "law.go:38", after := #[{ on := 7, ground := Ground.data }], guard := none }) (v := _) [18, 19, 20, 21] [20, 21] rfl rfl (by kernel_rfl) (by kernel_rfl) (by kernel_rfl) (by kernel_rfl) (by kernel_rfl) (by kernel_rfl) (by kernel_rfl) (fun _ _ _ h => h) (Or.inl ⟨by rfl, Or.inl ?hy10⟩) ?rest10
      case hy10 => (intro w' kk ss; obtain ⟨q0, q1, q2, q3, q4, q5, q6, q7⟩ := (HX.out _ (hr0.trans kk)).eight; go_simp; first | done | with_reducible rfl)
      try simp only [Act.put, List.setIfInBounds_toArray, List.set_cons_zero, List.set_cons_succ]
      refine' Reg.wpG_take (i := 9) (oi := { dst := some 21, op := Op.fieldAddr 42 (Operand.tmp 5) 4, type := 0, pos := "law.go:38", after := #[], guard := none }) (v := _) [10, 18, 19, 20, 21] [20, 21] rfl rfl (by kernel_rfl) (by kernel_rfl) (by kernel_rfl) (by kernel_rfl) (by kernel_rfl) (by kernel_rfl) (by kernel_rfl) (fun _ _ _ h => h) (Or.inl ⟨by rfl, Or.inl ?hy11⟩) ?rest11
      case hy11 => (intro w' kk ss; obtain ⟨q0, q1, q2, q3, q4, q5, q6, q7⟩ := (HX.out _ (hr0.trans kk)).eight; go_simp; first | done | with_reducible rfl)
      try simp only [Act.put, List.setIfInBounds_toArray, List.set_cons_zero, List.set_cons_succ]
      refine' Reg.wpG_take (i := 10) (oi := { dst := some 22, op := Op.load 2 (Operand.tmp 21), type := 2, pos := "law.go:38", after := #[{ on := 9, ground := Ground.data }], guard := none }) (v := _) [18, 19, 20, 21] [20, 21] rfl rfl (by kernel_rfl) (by kernel_rfl) (by kernel_rfl) (by kernel_rfl) (by kernel_rfl) (by kernel_rfl) (by kernel_rfl) (fun _ _ _ h => h) (Or.inl ⟨by rfl, Or.inl ?hy12⟩) ?rest12
      case hy12 => (intro w' kk ss; obtain ⟨q0, q1, q2, q3, q4, q5, q6, q7⟩ := (HX.out _ (hr0.trans kk)).eight; go_simp; first | done | with_reducible rfl)
      try simp only [Act.put, List.setIfInBounds_toArray, List.set_cons_zero, List.set_cons_succ]
      refine' Reg.wpG_take (i := 11) (oi := { dst := some 23, op := Op.fieldAddr 42 (Operand.tmp 5) 5, type := 0, pos := "law.go:38", after := #[], guard := none }) (v := _) [12, 18, 19, 20, 21] [20, 21] rfl rfl (by kernel_rfl) (by kernel_rfl) (by kernel_rfl) (by kernel_rfl) (by kernel_rfl) (by kernel_rfl) (by kernel_rfl) (fun _ _ _ h => h) (Or.inl ⟨by rfl, Or.inl ?hy13⟩) ?rest13
      case hy13 => (intro w' kk ss; obtain ⟨q0, q1, q2, q3, q4, q5, q6, q7⟩ := (HX.out _ (hr0.trans kk)).eight; go_simp; first | done | with_reducible rfl)
      try simp only [Act.put, List.setIfInBounds_toArray, List.set_cons_zero, List.set_cons_succ]
      refine' Reg.wpG_take (i := 12) (oi := { dst := some 24, op := Op.load 4 (Operand.tmp 23), type := 4, pos := "law.go:38", after := #[{ on := 11, ground := Ground.data }], guard := none }) (v := _) [18, 19, 20, 21] [20, 21] rfl rfl (by kernel_rfl) (by kernel_rfl) (by kernel_rfl) (by kernel_rfl) (by kernel_rfl) (by kernel_rfl) (by kernel_rfl) (fun _ _ _ h => h) (Or.inl ⟨by rfl, Or.inl ?hy14⟩) ?rest14
      case hy14 => (intro w' kk ss; obtain ⟨q0, q1, q2, q3, q4, q5, q6, q7⟩ := (HX.out _ (hr0.trans kk)).eight; go_simp; first | done | with_reducible rfl)
      try simp only [Act.put, List.setIfInBounds_toArray, List.set_cons_zero, List.set_cons_succ]
      refine' Reg.wpG_take (i := 13) (oi := { dst := some 25, op := Op.fieldAddr 42 (Operand.tmp 5) 6, type := 0, pos := "law.go:38", after := #[], guard := none }) (v := _) [14, 15, 18, 19, 20, 21] [20, 21] rfl rfl (by kernel_rfl) (by kernel_rfl) (by kernel_rfl) (by kernel_rfl) (by kernel_rfl) (by kernel_rfl) (by kernel_rfl) (fun _ _ _ h => h) (Or.inl ⟨by rfl, Or.inl ?hy15⟩) ?rest15
      case hy15 => (intro w' kk ss; obtain ⟨q0, q1, q2, q3, q4, q5, q6, q7⟩ := (HX.out _ (hr0.trans kk)).eight; go_simp; first | done | with_reducible rfl)
      try simp only [Act.put, List.setIfInBounds_toArray, List.set_cons_zero, List.set_cons_succ]
      refine' Reg.wpG_take (i := 14) (oi := { dst := some 26, op := Op.load 40 (Operand.tmp 25), type := 40, pos := "law.go:38", after := #[{ on := 13, ground := Ground.data }], guard := none }) (v := _) [15, 18, 19, 20, 21] [20, 21] rfl rfl (by kernel_rfl) (by kernel_rfl) (by kernel_rfl) (by kernel_rfl) (by kernel_rfl) (by kernel_rfl) (by kernel_rfl) (fun _ _ _ h => h) (Or.inl ⟨by rfl, Or.inl ?hy16⟩) ?rest16
      case hy16 => (intro w' kk ss; obtain ⟨q0, q1, q2, q3, q4, q5, q6, q7⟩ := (HX.out _ (hr0.trans kk)).eight; go_simp; first | done | with_reducible rfl)
      try simp only [Act.put, List.setIfInBounds_toArray, List.set_cons_zero, List.set_cons_succ]
      refine' Reg.wpG_take (i := 16) (oi := { dst := some 28, op := Op.fieldAddr 42 (Operand.tmp 5) 7, type := 0, pos := "law.go:38", after := #[], guard := none }) (v := _) [17, 18, 19, 20, 21] [20, 21] rfl rfl (by kernel_rfl) (by kernel_rfl) (by kernel_rfl) (by kernel_rfl) (by kernel_rfl) (by kernel_rfl) (by kernel_rfl) (fun _ _ _ h => h) (Or.inl ⟨by rfl, Or.inl ?hy17⟩) ?rest17
      case hy17 => (intro w' kk ss; obtain ⟨q0, q1, q2, q3, q4, q5, q6, q7⟩ := (HX.out _ (hr0.trans kk)).eight; go_simp; first | done | with_reducible rfl)
      try simp only [Act.put, List.setIfInBounds_toArray, List.set_cons_zero, List.set_cons_succ]
      refine' Reg.wpG_take (i := 17) (oi := { dst := some 29, op := Op.load 3 (Operand.tmp 28), type := 3, pos := "law.go:38", after := #[{ on := 16, ground := Ground.data }], guard := none }) (v := _) [18, 19, 20, 21] [20, 21] rfl rfl (by kernel_rfl) (by kernel_rfl) (by kernel_rfl) (by kernel_rfl) (by kernel_rfl) (by kernel_rfl) (by kernel_rfl) (fun _ _ _ h => h) (Or.inl ⟨by rfl, Or.inl ?hy18⟩) ?rest18
      case hy18 => (intro w' kk ss; obtain ⟨q0, q1, q2, q3, q4, q5, q6, q7⟩ := (HX.out _ (hr0.trans kk)).eight; go_simp; first | done | with_reducible rfl)
      try simp only [Act.put, List.setIfInBounds_toArray, List.set_cons_zero, List.set_cons_succ]
      refine Reg.wpG_ready (rs := [15]) (by kernel_rfl) (by simp) (fun wq1001 k1001' sq1001 => ?_)
      have hr0 := hr0.trans k1001'
      refine Reg.AllG.first (o := { dst := some 27, op := Op.call { callee := Callee.value (Operand.func 18), args := #[Operand.tmp 26], argTypes := #[40] }, type := 49, pos := "law.go:38", after := #[{ on := 14, ground := Ground.data }], guard := none }) rfl (by rfl) (fun K hK => ?_) Reg.AllG.nil
      go_simp
      have hq1 := hr0.size
      (with_reducible refine (C.out _ hr0).mono ?_)
      rintro e y1001 ⟨A3, c3, rfl, hCall, hCf, hx⟩
      rw [← HMM.out]
      rw [← HMM.out] at hCall hCf
      refine hK.out _ _ trivial hx ?_
      clear hK K
      have hr0 := hr0.trans hx
      clear hx
      try simp only [Act.put, List.setIfInBounds_toArray, List.set_cons_zero, List.set_cons_succ]
      refine' Reg.wpG_take (i := 18) (oi := { dst := some 30, op := Op.build 51 #[(0, Operand.tmp 14), (1, Operand.tmp 16), (2, Operand.tmp 18), (3, Operand.tmp 20), (4, Operand.tmp 22), (5, Operand.tmp 24), (6, Operand.tmp 27), (7, Operand.tmp 29)], type := 51, pos := "law.go:38", after := #[{ on := 2, ground := Ground.data }, { on := 4, ground := Ground.data }, { on := 6, ground := Ground.data }, { on := 8, ground := Ground.data }, { on := 10, ground := Ground.data }, { on := 12, ground := Ground.data }, { on := 15, ground := Ground.data }, { on := 17, ground := Ground.data }], guard := none }) (v := _) [19, 20, 21] [20, 21] rfl rfl (by kernel_rfl) (by kernel_rfl) (by kernel_rfl) (by kernel_rfl) (by kernel_rfl) (by kernel_rfl) (by kernel_rfl) (fun _ _ _ h => h) (Or.inl ⟨by rfl, Or.inl ?hy19⟩) ?rest19
      case hy19 => (intro w' kk ss; obtain ⟨q0, q1, q2, q3, q4, q5, q6, q7⟩ := (HX.out _ (hr0.trans kk)).eight; go_simp; first | done | with_reducible rfl)
      try simp only [Act.put, List.setIfInBounds_toArray, List.set_cons_zero, List.set_cons_succ]
      refine Reg.wpG_ready (rs := [19]) (by kernel_rfl) (by simp) (fun wq1002 k1002' sq1002 => ?_)
      have hr0 := hr0.trans k1002'
      have hCall := hCall.since (stX _) k1002'
      refine Reg.AllG.first (o := { dst := some 31, op := Op.buildSlice 32 1 #[(0, Operand.tmp 30)], type := 32, pos := "law.go:38", after := #[{ on := 18, ground := Ground.data }], guard := none }) rfl (by rfl) (fun K hK => ?_) Reg.AllG.nil
      go_simp
      refine hK.out _ _ trivial (since_alloc _ _) ?_
      clear hK K
      have hr0 := hr0.trans (since_alloc wq1002 (.cells #[.int .i64 ki, .string nm, .bool bo, .slice A1 p c1, .int .i64 sz, .bool ou, .slice A3 m c3, .int .i64 ak] 51))
      have hCall := hCall.since (stX _) (since_alloc wq1002 (.cells #[.int .i64 ki, .string nm, .bool bo, .slice A1 p c1, .int .i64 sz, .bool ou, .slice A3 m c3, .int .i64 ak] 51))
      have hB := Box.new wq1002 [.int .i64 ki, .string nm, .bool bo, .slice A1 p c1, .int .i64 sz, .bool ou, .slice A3 m c3, .int .i64 ak] 51
      try simp only [Act.put, List.setIfInBounds_toArray, List.set_cons_zero, List.set_cons_succ]
      refine Reg.wpG_ready (rs := [20]) (by kernel_rfl) (by simp) (fun wq k1003' sq => ?_)
      have hCall := hCall.since (stX _) k1003'
      have hB := hB.since k1003'
      have hr0 := hr0.trans k1003'
      refine Reg.AllG.last (o := { dst := some 32, op := Op.call { callee := Callee.builtin Builtin.append, args := #[Operand.tmp 12, Operand.tmp 31], argTypes := #[32, 32] }, type := 32, pos := "law.go:38", after := #[{ on := 0, ground := Ground.data }, { on := 19, ground := Ground.data }, { on := 15, ground := Ground.chain }], guard := none }) rfl (by rfl) (fun K hK => ?_) Reg.AllG.nil
      have hsq : Since wr wq := hs1.trans hr0
      have hlt1 : ∀ b, own G (.slice A k c) b → b < wq1001.heap.size := fun b hb => by
        have := hs1.size
        have := hw.size
        rcases hb with hb | hb
        · have := HG.out b hb; omega
        · have := (HO.out.lt b hb).2; omega
      rw [if_pos (by rfl)]
      refine wp_append_at _ _ _ 32 rfl w.heap.size 51 i0 (.agg #[.int .i64 0, .string ⟨#[]⟩, .bool false, .slice none 0 0, .int .i64 0, .bool false, .slice none 0 0, .int .i64 0]) 8 104 Tryd.underlying32 hi hz0 hz1 hz2 rfl (by decide) (.slice A k c) _ _ rfl (owns_since HO.out hsq) ⟨_, 0, none⟩ 1 1 [.int .i64 ki, .string nm, .bool bo, .slice A1 p c1, .int .i64 sz, .bool ou, .slice A3 m c3, .int .i64 ak] rfl rfl hB.cells ?c2 ?c3 ?c4 ?c5 ?_
      case c2 => intro u hu; simp at hu; rcases hu with rfl | rfl | rfl | rfl | rfl | rfl | rfl | rfl <;> rfl
      case c3 => unfold maxLen; omega
      case c4 => omega
      case c5 => exact (hw.trans hsq).size
      intro v' w3 hown' hgrow hat
      refine hK.out _ _ trivial (fun hHeld => ?_)
      clear hK K
      have hxn : QI (own G (.slice A k c)) wq ⟨ki, nm, bo, dm, sz, ou, vs, ak⟩ [.int .i64 ki, .string nm, .bool bo, .slice A1 p c1, .int .i64 sz, .bool ou, .slice A3 m c3, .int .i64 ak] :=
        ⟨_, _, rfl, HD.out.since stR (hw.trans hsq), HDF.out.or (FarO.new (G := fun b => (Value.slice A k c).ownBlock = some b) HD.out (by decide) (fun b hb => (HO.out.lt b hb).1)),
          hCall.mono (fun x u => QX.less (fun b hb => .inl (hlt1 b hb))), hCf.mono hlt1⟩
      have hr1 : Rws 8 (QI (own G v') w3) (xs.take (k + 1)) (cs ++ [.int .i64 ki, .string nm, .bool bo, .slice A1 p c1, .int .i64 sz, .bool ou, .slice A3 m c3, .int .i64 ak]) := by
        rw [HT.out]
        exact Rws.mono (fun x u h => QI.grow hgrow own.has (own.app hat) h) ((HR.out.since (stI _) hsq).snoc hxn rfl)
      have hs3 : Since w w3 := Below.grown (hw.trans hsq) hgrow (hw.trans hsq).size (fun g hg => (HO.out.lt g hg).1)
      have ho1 : w3.ownsRow w.heap.size 51 8 v' (k + 1) (cs ++ [.int .i64 ki, .string nm, .bool bo, .slice A1 p c1, .int .i64 sz, .bool ou, .slice A3 m c3, .int .i64 ak]) := hown'
      clear hown' hgrow hxn hat
      obtain ⟨A', c', rfl⟩ := owns_slice ho1
      have HO1 := Lib.hid ho1
      have HR1 := Lib.hid hr1
      clear ho1 hr1 hB hCall hCf hlt1 hq1
      try simp only [Act.put, List.setIfInBounds_toArray, List.set_cons_zero, List.set_cons_succ]
      refine' wpAnyH_take (i := 21) (oi := { dst := some 3, op := Op.assign (Operand.tmp 32), type := 32, pos := "law.go:38", after := #[{ on := 20, ground := Ground.data }, { on := 20, ground := Ground.chain }, { on := 0, ground := Ground.phase }, { on := 1, ground := Ground.phase }, { on := 2, ground := Ground.phase }, { on := 3, ground := Ground.phase }, { on := 4, ground := Ground.phase }, { on := 5, ground := Ground.phase }, { on := 6, ground := Ground.phase }, { on := 7, ground := Ground.phase }, { on := 8, ground := Ground.phase }, { on := 9, ground := Ground.phase }, { on := 10, ground := Ground.phase }, { on := 11, ground := Ground.phase }, { on := 12, ground := Ground.phase }, { on := 13, ground := Ground.phase }, { on := 14, ground := Ground.phase }, { on := 15, ground := Ground.phase }, { on := 16, ground := Ground.phase }, { on := 17, ground := Ground.phase }, { on := 18, ground := Ground.phase }, { on := 19, ground := Ground.phase }, { on := 20, ground := Ground.phase }], guard := none }) (v := _) rfl (by kernel_rfl) (by kernel_rfl) (by kernel_rfl) (fun _ _ _ h => h) (Or.inl ⟨by rfl, ?hy20⟩) (by assumption) ?rest20
      case hy20 => (intro w' ss; (try dsimp only at ss); go_simp; first | done | with_reducible rfl)
      try simp only [Act.put, List.setIfInBounds_toArray, List.set_cons_zero, List.set_cons_succ]
      refine wpAnyH_done (by kernel_rfl) ?_ _
      refine NoPanic.normal ?_
      go_wp2
      go_roundw
      case rel => exact ⟨k + 1, A', c', _, by omega, by go_num, rfl, HO1.out, HR1.out, hs3⟩
      case measure => simp [intOf]; omega
    · obtain rfl : k = n := by omega
      have e : xs.take k = xs := List.take_of_length_le (by have := HN.out; omega)
      rw [e] at HR
      clear e
      go_wp2
      go_ret
      have hk2 := HN.out
      subst hk2
      exact ⟨A, c, cs, rfl, HO.out, HR.out, hw⟩
end Go.Proofs.YtgcfemnigpjadaaDoor.Law06
