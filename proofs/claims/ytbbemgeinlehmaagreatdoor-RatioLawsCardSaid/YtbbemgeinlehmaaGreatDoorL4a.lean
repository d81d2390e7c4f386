/- Layer 4's law: what few, whole, Ours and Theirs give back, and the document's own Same. -/
import Derived.Test.YtbbemgeinlehmaaGreatDoorQa
import Derived.Test.YtbbemgeinlehmaaGreatDoorRg
import Derived.Deep.DeepCutAuto
namespace Go.Proofs.YtbbemgeinlehmaaGreatDoor.Law04
open Go.RowKit
set_option linter.unusedVariables false
open Go.Proofs.YtbbemgeinlehmaaGreatDoor.Dig Go.Proofs.YtbbemgeinlehmaaGreatDoor.R4 Go.Proofs.YtbbemgeinlehmaaGreatDoor.Ref04
open Go.Proofs.YtbbemgeinlehmaaGreatDoor.Ref03 (sv)

theorem whole_any (A : Option Addr) (n c : Nat) (na : Bool) (w : World) :
    Calls Tryz.prog 44 #[sv na (.slice A n c)] w fun e w' => e = .returned (sv na (.slice A n c)) ∧ Since w w' := by
  go_enter Tryz.func44, Tryz.ntmps44
  go_wp2
  exact bodyPost_ret (v := sv na (.slice A n c)) (by simp [results, Tryz.results44, go_sem]) rfl ⟨rfl, by repeat (first | exact Since.refl _ | refine Since.alloc ?_ _ | refine Since.set ?_ (by first | exact Nat.le_refl _ | simp) _)⟩
theorem ours_any (A B : Option Addr) (n c m d : Nat) (na nb : Bool) (w : World) :
    Calls Tryz.prog 19 #[.agg #[.bool na, .slice A n c, .bool nb, .slice B m d]] w fun e w' => e = .returned (.agg #[.bool na, .slice A n c, .bool nb, .slice B m d]) ∧ Since w w' := by
  go_enter Tryz.func19, Tryz.ntmps19
  go_wp2
  exact bodyPost_ret (v := .agg #[.bool na, .slice A n c, .bool nb, .slice B m d]) (by simp [results, Tryz.results19, go_sem]) rfl ⟨rfl, by repeat (first | exact Since.refl _ | refine Since.alloc ?_ _ | refine Since.set ?_ (by first | exact Nat.le_refl _ | simp) _)⟩
set_option maxRecDepth 100000 in
set_option maxHeartbeats 4000000 in
theorem theirs_any (A B : Option Addr) (n c m d : Nat) (na nb : Bool) (w : World) :
    Calls Tryz.prog 12 #[.agg #[.bool na, .slice A n c, .bool nb, .slice B m d]] w fun e w' => e = .returned (.agg #[.bool na, .slice A n c, .bool nb, .slice B m d]) ∧ Since w w' := by
  obtain ⟨W0, hW0⟩ : ∃ W0, W0 = (w.alloc (.cells #[.bool na, .slice A n c, .bool nb, .slice B m d] 26)).alloc (.cells #[.bool false, .slice none 0 0, .bool false, .slice none 0 0] 31) := ⟨_, rfl⟩
  have HW := Lib.hid hW0
  have hS0 : Since w W0 := by rw [hW0]; exact ((Since.refl w).alloc _).alloc _
  have hbx : Hid (∀ W : World, Since W0 W → Bx W (w.heap.size) #[.bool na, .slice A n c, .bool nb, .slice B m d] 26 ∧ Bx W (w.heap.size + 1) #[.bool false, .slice none 0 0, .bool false, .slice none 0 0] 31) := fun W h => ⟨Bx.new ((since_alloc _ _).trans (hW0 ▸ h)) (by simp), Bx.new (hW0 ▸ h) (by simp)⟩
  clear hW0
  go_enter Tryz.func12, Tryz.ntmps12
  go_upto_region 1 with fail
  rw [← HW.out]
  have hall : Hid (∀ W : World, Since W0 W → W.cell? ⟨w.heap.size, 0, none⟩ = some (.bool na) ∧ W.cell? ⟨w.heap.size, 1, none⟩ = some (.slice A n c) ∧ W.cell? ⟨w.heap.size, 2, none⟩ = some (.bool nb) ∧ W.cell? ⟨w.heap.size, 3, none⟩ = some (.slice B m d)) := fun W h => (hbx.out _ h).1.four
  have hr0 : Since W0 W0.drew := Since.drew (Since.refl W0)
  refine wp_region_noPanic ?_
  refine Reg.wp_region_G (S := fun W => W.cell? ⟨w.heap.size, 0, none⟩ = some (.bool na) ∧ W.cell? ⟨w.heap.size, 1, none⟩ = some (.slice A n c) ∧ W.cell? ⟨w.heap.size, 2, none⟩ = some (.bool nb) ∧ W.cell? ⟨w.heap.size, 3, none⟩ = some (.slice B m d)) (fun j => [7].contains j) (by kernel_rfl) ?_ ?_
  · exact hall.out _ hr0
  refine' Reg.wpG_take (i := 0) (oi := { dst := some 3, op := Op.fieldAddr 26 (Operand.tmp 1) 0, type := 0, pos := "law.go:24", after := #[], guard := none }) (v := _) [1, 2, 5, 6, 7] [7] rfl rfl (by kernel_rfl) (by kernel_rfl) (by kernel_rfl) (by kernel_rfl) (by kernel_rfl) (by kernel_rfl) (by kernel_rfl) (fun _ _ _ h => h) (Or.inl ⟨by rfl, Or.inl ?hy2⟩) ?rest2
  case hy2 => (intro w' kk ss; (try dsimp only at ss); go_simp; first | done | with_reducible rfl)
  try simp only [Act.put, List.setIfInBounds_toArray, List.set_cons_zero, List.set_cons_succ]
  refine' Reg.wpG_take (i := 1) (oi := { dst := some 4, op := Op.load 24 (Operand.tmp 3), type := 24, pos := "law.go:24", after := #[{ on := 0, ground := Ground.data }], guard := none }) (v := _) [2, 5, 6, 7] [7] rfl rfl (by kernel_rfl) (by kernel_rfl) (by kernel_rfl) (by kernel_rfl) (by kernel_rfl) (by kernel_rfl) (by kernel_rfl) (fun _ _ _ h => h) (Or.inl ⟨by rfl, Or.inl ?hy3⟩) ?rest3
  case hy3 => (intro w' kk ss; (try dsimp only at ss); go_simp; first | done | with_reducible rfl)
  try simp only [Act.put, List.setIfInBounds_toArray, List.set_cons_zero, List.set_cons_succ]
  refine Reg.wpG_take (i := 2) (oi := { dst := some 5, op := Op.call { callee := Callee.value (Operand.func 44), args := #[Operand.tmp 4], argTypes := #[24] }, type := 29, pos := "law.go:24", after := #[{ on := 1, ground := Ground.data }], guard := none }) (v := sv na (.slice A n c)) [5, 6, 7] [7] rfl rfl (by kernel_rfl) (by kernel_rfl) (by kernel_rfl) (by kernel_rfl) (by kernel_rfl) (by kernel_rfl) (by kernel_rfl) (fun _ _ _ h => h) (Or.inl ⟨by rfl, Or.inr ⟨44, #[sv na (.slice A n c)], fun w' kk ss => ⟨?_, ?_⟩⟩⟩) ?_
  · (try dsimp only at ss); go_simp
  · exact (whole_any A n c na w').mono fun e w'' h => ⟨h.1, h.2, hall.out _ (hr0.trans (kk.trans h.2))⟩
  try simp only [Act.put, List.setIfInBounds_toArray, List.set_cons_zero, List.set_cons_succ]
  refine' Reg.wpG_take (i := 3) (oi := { dst := some 6, op := Op.fieldAddr 26 (Operand.tmp 1) 1, type := 0, pos := "law.go:24", after := #[], guard := none }) (v := _) [4, 5, 6, 7] [7] rfl rfl (by kernel_rfl) (by kernel_rfl) (by kernel_rfl) (by kernel_rfl) (by kernel_rfl) (by kernel_rfl) (by kernel_rfl) (fun _ _ _ h => h) (Or.inl ⟨by rfl, Or.inl ?hy4⟩) ?rest4
  case hy4 => (intro w' kk ss; (try dsimp only at ss); go_simp; first | done | with_reducible rfl)
  try simp only [Act.put, List.setIfInBounds_toArray, List.set_cons_zero, List.set_cons_succ]
  refine' Reg.wpG_take (i := 4) (oi := { dst := some 7, op := Op.load 24 (Operand.tmp 6), type := 24, pos := "law.go:24", after := #[{ on := 3, ground := Ground.data }], guard := none }) (v := _) [5, 6, 7] [7] rfl rfl (by kernel_rfl) (by kernel_rfl) (by kernel_rfl) (by kernel_rfl) (by kernel_rfl) (by kernel_rfl) (by kernel_rfl) (fun _ _ _ h => h) (Or.inl ⟨by rfl, Or.inl ?hy5⟩) ?rest5
  case hy5 => (intro w' kk ss; (try dsimp only at ss); go_simp; first | done | with_reducible rfl)
  try simp only [Act.put, List.setIfInBounds_toArray, List.set_cons_zero, List.set_cons_succ]
  refine Reg.wpG_take (i := 5) (oi := { dst := some 8, op := Op.call { callee := Callee.value (Operand.func 44), args := #[Operand.tmp 7], argTypes := #[24] }, type := 29, pos := "law.go:24", after := #[{ on := 4, ground := Ground.data }, { on := 2, ground := Ground.chain }], guard := none }) (v := sv nb (.slice B m d)) [6, 7] [7] rfl rfl (by kernel_rfl) (by kernel_rfl) (by kernel_rfl) (by kernel_rfl) (by kernel_rfl) (by kernel_rfl) (by kernel_rfl) (fun _ _ _ h => h) (Or.inl ⟨by rfl, Or.inr ⟨44, #[sv nb (.slice B m d)], fun w' kk ss => ⟨?_, ?_⟩⟩⟩) ?_
  · (try dsimp only at ss); go_simp
  · exact (whole_any B m d nb w').mono fun e w'' h => ⟨h.1, h.2, hall.out _ (hr0.trans (kk.trans h.2))⟩
  try simp only [Act.put, List.setIfInBounds_toArray, List.set_cons_zero, List.set_cons_succ]
  refine' Reg.wpG_take (i := 6) (oi := { dst := some 9, op := Op.build 31 #[(0, Operand.tmp 5), (1, Operand.tmp 8)], type := 31, pos := "law.go:24", after := #[{ on := 2, ground := Ground.data }, { on := 5, ground := Ground.data }], guard := none }) (v := _) [7] [7] rfl rfl (by kernel_rfl) (by kernel_rfl) (by kernel_rfl) (by kernel_rfl) (by kernel_rfl) (by kernel_rfl) (by kernel_rfl) (fun _ _ _ h => h) (Or.inl ⟨by rfl, Or.inl ?hy6⟩) ?rest6
  case hy6 => (intro w' kk ss; (try dsimp only at ss); go_simp; first | done | with_reducible rfl)
  try simp only [Act.put, List.setIfInBounds_toArray, List.set_cons_zero, List.set_cons_succ]
  refine Reg.wpG_ready (rs := [7]) (by kernel_rfl) (by simp) (fun wq k1001' sq => ?_)
  have hr0 := hr0.trans k1001'
  refine Reg.AllG.last (o := { dst := none, op := Op.store 31 (Operand.tmp 2) (Operand.tmp 9), type := 0, pos := "law.go:24", after := #[{ on := 6, ground := Ground.data }, { on := 5, ground := Ground.chain }, { on := 0, ground := Ground.phase }, { on := 1, ground := Ground.phase }, { on := 2, ground := Ground.phase }, { on := 3, ground := Ground.phase }, { on := 4, ground := Ground.phase }, { on := 5, ground := Ground.phase }, { on := 6, ground := Ground.phase }], guard := none }) rfl (by rfl) (fun K hK => ?_) Reg.AllG.nil
  obtain ⟨B0, gr⟩ := hbx.out _ hr0
  obtain ⟨k0a, k0b, k0c, k0d⟩ := B0.four
  obtain ⟨r0a, r0b, r0c, r0d⟩ := gr.four
  obtain ⟨f0a, f0b, f0c, f0d⟩ := gr.four'
  go_simp
  refine hK.out _ _ ?_ (fun hHeld => ?_)
  · refine ⟨?_, ?_, ?_, ?_⟩ <;> go_simp
  clear hK K
  try simp only [Act.put, List.setIfInBounds_toArray, List.set_cons_zero, List.set_cons_succ]
  refine wpAnyH_done (by kernel_rfl) ?_ _
  refine NoPanic.normal ?_
  go_wp2_with fail
  refine bodyPost_ret (v := .agg #[.bool na, .slice A n c, .bool nb, .slice B m d]) ?_ rfl ?_
  · simp [results, Tryz.results12, go_sem, r0a, r0b, r0c, r0d]
  · exact ⟨rfl, since_put4 (hS0.trans hr0) (by omega) _ _ _ _⟩

/-- a fraction: signs, where the digits lie, their capacity, the digits -/
structure Rat4 where
  na : Bool
  A : Option Addr
  c : Nat
  xs : List Nat
  nb : Bool
  B : Option Addr
  d : Nat
  ys : List Nat
def Rat4.nil : Rat4 := ⟨false, none, 0, [], false, none, 0, []⟩
/-- block b holds the fractions ls side by side -/
def Holds (w : World) (b : Nat) (ls : List Rat4) : Prop :=
  ∀ i, i < ls.length → w.cell? ⟨b, i * 4, none⟩ = some (.bool (ls.getD i .nil).na) ∧ w.cell? ⟨b, i * 4 + 1, none⟩ = some (.slice (ls.getD i .nil).A (ls.getD i .nil).xs.length (ls.getD i .nil).c) ∧
    w.cell? ⟨b, i * 4 + 2, none⟩ = some (.bool (ls.getD i .nil).nb) ∧ w.cell? ⟨b, i * 4 + 3, none⟩ = some (.slice (ls.getD i .nil).B (ls.getD i .nil).ys.length (ls.getD i .nil).d)
theorem Holds.since {w w' : World} {b : Nat} {ls : List Rat4} (h : Holds w b ls) (k : Since w w') : Holds w' b ls := fun i hi => by
  obtain ⟨h1, h2, h3, h4⟩ := h i hi
  exact ⟨(Below.cell k (World.block_lt_of_cell? _ _ h1)).trans h1, (Below.cell k (World.block_lt_of_cell? _ _ h2)).trans h2, (Below.cell k (World.block_lt_of_cell? _ _ h3)).trans h3, (Below.cell k (World.block_lt_of_cell? _ _ h4)).trans h4⟩
def few1 (a : Rat4) : Bool := decide (a.xs.length ≤ 8) && decide (a.ys.length ≤ 8)
/-- none has more than eight digits -/
def fewB (ls : List Rat4) : Bool := ls.all few1
theorem take_next {ls : List Rat4} {k : Nat} (h : k < ls.length) : ls.take (k + 1) = ls.take k ++ [ls.getD k .nil] := by
  rw [List.take_succ_eq_append_getElem h]; simp [List.getD, List.getElem?_eq_getElem h]
theorem all_next {p : Rat4 → Bool} {ls : List Rat4} {k : Nat} (h : k < ls.length) (h1 : (ls.take k).all p = true) (h2 : p (ls.getD k .nil) = true) : (ls.take (k + 1)).all p = true := by
  rw [take_next h, List.all_append, h1]; simpa using h2
theorem all_not {p : Rat4 → Bool} {ls : List Rat4} {k : Nat} (h : k < ls.length) (h2 : p (ls.getD k .nil) = false) : ls.all p = false := by
  rw [List.all_eq_false]
  refine ⟨ls.getD k .nil, ?_, by rw [h2]; exact Bool.false_ne_true⟩
  simp [List.getD, List.getElem?_eq_getElem h]
theorem all_end {p : Rat4 → Bool} {ls : List Rat4} {k : Nat} (h : ls.length ≤ k) (h1 : (ls.take k).all p = true) : ls.all p = true := by
  rwa [List.take_of_length_le h] at h1
set_option maxRecDepth 100000 in
set_option maxHeartbeats 4000000 in
theorem few_any (b : Nat) (ls : List Rat4) (w : World) (h : Holds w b ls) (hl : ls.length ≤ 100) :
    Calls Tryz.prog 10 #[.slice (some ⟨b, 0, none⟩) ls.length ls.length] w fun e w' => e = .returned (.bool (fewB ls)) ∧ Since w w' := by
  have H := Lib.hid h
  clear h
  go_enter Tryz.func10, Tryz.ntmps10
  go_wp2
  go_loopw [7] (fun i wr => ∃ k : Nat, k ≤ ls.length ∧ i = .int .i64 k ∧ Hid (fewB (ls.take k) = true) ∧ Since w wr) (fun i _ => ls.length - (intOf i).toNat)
  case atStart => exact ⟨0, Nat.zero_le _, rfl, rfl, Since.refl _⟩
  case round =>
    obtain ⟨k, hk, rfl, hf, hw⟩ := hrel
    have HW := Lib.hid hw
    by_cases hlt : k < ls.length
    · obtain ⟨h1, h2, h3, h4⟩ := (H.out.since hw) k hlt
      obtain ⟨x, hx⟩ : ∃ x, x = ls.getD k .nil := ⟨_, rfl⟩
      rw [← hx] at h1 h2 h3 h4
      have HX := Lib.hid hx
      have HL := Lib.hid hlt
      clear hx
      by_cases hc : x.xs.length ≤ 8
      · by_cases hd : x.ys.length ≤ 8
        · have HN := Lib.hid (show fewB (ls.take (k + 1)) = true from all_next HL.out hf.out (by rw [← HX.out]; unfold few1; rw [decide_eq_true hc, decide_eq_true hd]; rfl))
          go_wp2
          go_roundw
          case rel => exact ⟨k + 1, by omega, by go_num, HN, HW.out.alloc _⟩
          case measure => simp [intOf]; omega
        · have HN := Lib.hid (show fewB ls = false from all_not HL.out (by rw [← HX.out]; unfold few1; rw [decide_eq_false hd]; simp))
          go_wp2
          go_ret
          exact ⟨by rw [HN.out]; rfl, HW.out.alloc _⟩
      · have HN := Lib.hid (show fewB ls = false from all_not HL.out (by rw [← HX.out]; unfold few1; rw [decide_eq_false hc]; simp))
        go_wp2
        go_ret
        exact ⟨by rw [HN.out]; rfl, HW.out.alloc _⟩
    · have HN := Lib.hid (show fewB ls = true from all_end (by omega) hf.out)
      go_wp2
      go_ret
      exact ⟨by rw [HN.out]; rfl, HW.out⟩
theorem few_one (w : World) (t : TypeId) (x : Rat4) :
    Calls Tryz.prog 10 #[.slice (some ⟨w.heap.size, 0, none⟩) 1 1] (w.alloc (.cells #[.bool x.na, .slice x.A x.xs.length x.c, .bool x.nb, .slice x.B x.ys.length x.d] t)) fun e w' => e = .returned (.bool (few1 x)) ∧ Since w w' := by
  have hB := Bx.fresh w #[.bool x.na, .slice x.A x.xs.length x.c, .bool x.nb, .slice x.B x.ys.length x.d] t
  have h : Holds (w.alloc (.cells #[.bool x.na, .slice x.A x.xs.length x.c, .bool x.nb, .slice x.B x.ys.length x.d] t)) w.heap.size [x] := fun i hi => by
    match i, hi with
    | 0, _ => exact ⟨hB.cell 0, hB.cell 1, hB.cell 2, hB.cell 3⟩
  refine (few_any w.heap.size [x] _ h (by simp)).mono fun e w' k => ⟨?_, (since_alloc _ _).trans k.2⟩
  rw [k.1]; simp [fewB]
theorem few_two (w : World) (t : TypeId) (x y : Rat4) :
    Calls Tryz.prog 10 #[.slice (some ⟨w.heap.size, 0, none⟩) 2 2] (w.alloc (.cells #[.bool x.na, .slice x.A x.xs.length x.c, .bool x.nb, .slice x.B x.ys.length x.d, .bool y.na, .slice y.A y.xs.length y.c, .bool y.nb, .slice y.B y.ys.length y.d] t)) fun e w' => e = .returned (.bool ((few1 x && few1 y))) ∧ Since w w' := by
  have hB := Bx.fresh w #[.bool x.na, .slice x.A x.xs.length x.c, .bool x.nb, .slice x.B x.ys.length x.d, .bool y.na, .slice y.A y.xs.length y.c, .bool y.nb, .slice y.B y.ys.length y.d] t
  have h : Holds (w.alloc (.cells #[.bool x.na, .slice x.A x.xs.length x.c, .bool x.nb, .slice x.B x.ys.length x.d, .bool y.na, .slice y.A y.xs.length y.c, .bool y.nb, .slice y.B y.ys.length y.d] t)) w.heap.size [x, y] := fun i hi => by
    match i, hi with
    | 0, _ => exact ⟨hB.cell 0, hB.cell 1, hB.cell 2, hB.cell 3⟩
    | 1, _ => exact ⟨hB.cell 4, hB.cell 5, hB.cell 6, hB.cell 7⟩
  refine (few_any w.heap.size [x, y] _ h (by simp)).mono fun e w' k => ⟨?_, (since_alloc _ _).trans k.2⟩
  rw [k.1]; simp [fewB]
theorem few_three (w : World) (t : TypeId) (x y z : Rat4) :
    Calls Tryz.prog 10 #[.slice (some ⟨w.heap.size, 0, none⟩) 3 3] (w.alloc (.cells #[.bool x.na, .slice x.A x.xs.length x.c, .bool x.nb, .slice x.B x.ys.length x.d, .bool y.na, .slice y.A y.xs.length y.c, .bool y.nb, .slice y.B y.ys.length y.d, .bool z.na, .slice z.A z.xs.length z.c, .bool z.nb, .slice z.B z.ys.length z.d] t)) fun e w' => e = .returned (.bool ((few1 x && (few1 y && few1 z)))) ∧ Since w w' := by
  have hB := Bx.fresh w #[.bool x.na, .slice x.A x.xs.length x.c, .bool x.nb, .slice x.B x.ys.length x.d, .bool y.na, .slice y.A y.xs.length y.c, .bool y.nb, .slice y.B y.ys.length y.d, .bool z.na, .slice z.A z.xs.length z.c, .bool z.nb, .slice z.B z.ys.length z.d] t
  have h : Holds (w.alloc (.cells #[.bool x.na, .slice x.A x.xs.length x.c, .bool x.nb, .slice x.B x.ys.length x.d, .bool y.na, .slice y.A y.xs.length y.c, .bool y.nb, .slice y.B y.ys.length y.d, .bool z.na, .slice z.A z.xs.length z.c, .bool z.nb, .slice z.B z.ys.length z.d] t)) w.heap.size [x, y, z] := fun i hi => by
    match i, hi with
    | 0, _ => exact ⟨hB.cell 0, hB.cell 1, hB.cell 2, hB.cell 3⟩
    | 1, _ => exact ⟨hB.cell 4, hB.cell 5, hB.cell 6, hB.cell 7⟩
    | 2, _ => exact ⟨hB.cell 8, hB.cell 9, hB.cell 10, hB.cell 11⟩
  refine (few_any w.heap.size [x, y, z] _ h (by simp)).mono fun e w' k => ⟨?_, (since_alloc _ _).trans k.2⟩
  rw [k.1]; simp [fewB]
end Go.Proofs.YtbbemgeinlehmaaGreatDoor.Law04
