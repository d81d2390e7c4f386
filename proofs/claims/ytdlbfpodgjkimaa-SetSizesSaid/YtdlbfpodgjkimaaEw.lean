/- Layer 9 (set): the law's answers that the document fixes. -/
import Derived.Test.YtdlbfpodgjkimaaEv
import Derived.Test.YtdlbfpodgjkimaaEt
import Derived.Test.YtdlbfpodgjkimaaEh
import Derived.Test.YtdlbfpodgjkimaaEi
import Derived.Test.YtdlbfpodgjkimaaEn
namespace Go.Proofs.Ytdlbfpodgjkimaa.Zs
open Go.RowKit
set_option linter.unusedVariables false
set_option linter.unusedSimpArgs false
open Go.Proofs.Ytdlbfpodgjkimaa.Dig Go.Proofs.Ytdlbfpodgjkimaa.Lx Go.Proofs.Ytdlbfpodgjkimaa.Tk Go.Proofs.Ytdlbfpodgjkimaa.Ti

/-- ranges in a new block -/
theorem sl_lit (W : World) (m : List Rn) (arr : Array Value) (ha : arr = (rcells m).toArray) (n : Nat) (hn : n = m.length) : Sl 2 QR (W.alloc (.cells arr 32)) (.slice (some ⟨W.heap.size, 0, none⟩) n n) m := by
  subst ha hn
  refine ⟨_, m.length, rfl, Nat.le_refl _, fun _ => ⟨_, 0, rfl, fun i x hx => ?_⟩⟩
  have hi : i < m.length := by
    apply Decidable.byContradiction; intro hn
    rw [List.getElem?_eq_none (by omega)] at hx; cases hx
  obtain ⟨a0, a1⟩ := rcells_at m hi
  rw [List.getElem?_eq_getElem hi, Option.some.injEq] at hx
  subst hx
  have key : ∀ j u, (rcells m)[j]? = some u → (W.alloc (.cells (rcells m).toArray 32)).cell? ⟨W.heap.size, j, none⟩ = some u := fun j u hj => by
    have := cell_new W (rcells m).toArray 32 rfl (j := j) (u := u) (by simpa using hj)
    rw [add_at, Nat.zero_add] at this
    exact this
  refine ⟨_, rfl, rfl, fun j y hy => ?_⟩
  rw [Nat.zero_add]
  match j, hy with
  | 0, hy => cases hy; exact key _ _ a0
  | 1, hy => cases hy; exact key _ _ a1
  | j + 2, hy => simp at hy
theorem ranges_lit (W : World) (v : Value) (l m : List Rn) (arr : Array Value) (ha : arr = (rcells m).toArray) (n : Nat) (hn : n = m.length) (hm : m.length ≤ 100000) (hv : Sl 2 QR W v l) (b : Bool) (hb : decide (l = m) = b) :
    Calls Try.prog 13 #[v, .slice (some ⟨W.heap.size, 0, none⟩) n n] (W.alloc (.cells arr 32)) (fun e w' => e = .returned (.bool b) ∧ Since W w') := by
  refine (ranges_any v _ l m _ (hv.since stR (since_alloc _ _)) (sl_lit W m arr ha n hn) hm).mono ?_
  rintro e w' ⟨rfl, k⟩
  subst hb
  exact ⟨rfl, (since_alloc _ _).trans k⟩
theorem bd_lit {l : List Rn} (h : (l.all fun r => decide (-9223372036854775808 ≤ r.1 ∧ r.1 < 9223372036854775808) && decide (-9223372036854775808 ≤ r.2 ∧ r.2 < 9223372036854775808)) = true) : Bd l := fun r hr => by
  have := List.all_eq_true.1 h r hr
  simpa [fits] using this
theorem of_lit (W : World) : Calls Try.prog 11 #[.slice (some ⟨W.heap.size, 0, none⟩) 3 3] (W.alloc (.cells #[.int .i64 5, .int .i64 7, .int .i64 1, .int .i64 3, .int .i64 4, .int .i64 4] 32)) (fun e w' => ∃ A c, e = .returned (.tuple #[.slice A 1 c, .int .i64 0]) ∧ Sl 2 QR w' (.slice A 1 c) [(1, 7)] ∧ Since W w') := by
  refine (of_any _ [(5, 7), (1, 3), (4, 4)] _ (sl_lit W _ _ rfl 3 rfl) (by decide)).mono ?_
  have e : ofD [] [(5, 7), (1, 3), (4, 4)] = some [(1, 7)] := by decide
  rw [e]
  rintro x w' ⟨A, m, c, rfl, hm, hS, k⟩
  obtain rfl : m = 1 := hm.symm
  exact ⟨A, c, rfl, hS, (since_alloc _ _).trans k⟩
theorem meet_lit (v : Value) (W : World) (h : Sl 2 QR W v [(1, 3), (7, 9)]) : Calls Try.prog 28 #[v, .slice (some ⟨W.heap.size, 0, none⟩) 1 1] (W.alloc (.cells #[.int .i64 3, .int .i64 8] 32)) (fun e w' => ∃ A c, e = .returned (.slice A 2 c) ∧ Sl 2 QR w' (.slice A 2 c) [(3, 3), (7, 8)] ∧ Since W w') := by
  refine (meet_any v _ [(1, 3), (7, 9)] [(3, 8)] _ (h.since stR (since_alloc _ _)) (sl_lit W _ _ rfl 1 rfl) (by decide) (by decide) (bd_lit (by decide)) (bd_lit (by decide))).mono ?_
  have e : meet [(1, 3), (7, 9)] [(3, 8)] = [(3, 3), (7, 8)] := by decide
  rw [e]
  rintro x w' ⟨A, m, c, rfl, hm, hS, k⟩
  obtain rfl : m = 2 := hm.symm
  exact ⟨A, c, rfl, hS, (since_alloc _ _).trans k⟩
theorem has_lit (W : World) : Calls Try.prog 20 #[.slice (some ⟨W.heap.size, 0, none⟩) 2 2, .int .i64 1] (W.alloc (.cells #[.int .i64 1, .int .i64 1, .int .i64 2, .int .i64 2] 32)) (fun e w' => e = .returned (.bool false) ∧ Since W w') := by
  refine (has_any _ [(1, 1), (2, 2)] 1 _ (sl_lit W _ _ rfl 2 rfl) (by decide) (bd_lit (by decide)) (by simp only [fits]; decide)).mono ?_
  have e : has [(1, 1), (2, 2)] 1 = false := by decide
  rw [e]
  rintro x w' ⟨rfl, k⟩
  exact ⟨rfl, (since_alloc _ _).trans k⟩
set_option maxRecDepth 20000 in
set_option maxHeartbeats 4000000 in
theorem alive_any (w : World) : Calls Try.prog 10 #[] w (RetT true w) := by
  have OA := Lib.hid of_lit
  have SH := Lib.hid (fun W => sl_lit W [(1, 3), (7, 9)] #[.int .i64 1, .int .i64 3, .int .i64 7, .int .i64 9] rfl 2 rfl)
  have NX := Lib.hid (fun (v : Value) (W : World) (h : Sl 2 QR W v [(1, 3), (7, 9)]) => show Calls Try.prog 18 #[v, .int .i64 4] W (RetN (some 7) W) from next_any v _ 4 W h (by decide) (bd_lit (by decide)) (by simp only [fits]; decide))
  have RI := Lib.hid (fun (v : Value) (W : World) (h : Sl 2 QR W v [(1, 3), (7, 9)]) => show Calls Try.prog 14 #[v] W (RetT true W) from right_any v _ W h (by decide) (bd_lit (by decide)))
  have SZ := Lib.hid (fun (v : Value) (W : World) (h : Sl 2 QR W v [(1, 3), (7, 9)]) => show Calls Try.prog 22 #[v] W (RetI 6 W) from size_any v _ W h (by decide) (bd_lit (by decide)))
  have R1 := Lib.hid (fun (v : Value) (W : World) (h : Sl 2 QR W v [(1, 7)]) => ranges_lit W v [(1, 7)] [(1, 7)] #[.int .i64 1, .int .i64 7] rfl 1 rfl (by decide) h true (by decide))
  have R2 := Lib.hid (fun (v : Value) (W : World) (h : Sl 2 QR W v [(3, 3), (7, 8)]) => ranges_lit W v [(3, 3), (7, 8)] [(3, 3), (7, 8)] #[.int .i64 3, .int .i64 3, .int .i64 7, .int .i64 8] rfl 2 rfl (by decide) h true (by decide))
  have ME := Lib.hid meet_lit
  have HA := Lib.hid has_lit
  go_enter Try.func10, Try.ntmps10
  go_wp2_with (first
    | (go_at_call 11; (with_reducible refine (OA.out _).mono ?_); rintro e w1 ⟨A, c, rfl, hd, k1⟩; have h1 := SH.out w1; have HD := Lib.hid hd; clear hd)
    | (go_at_call 18; (with_reducible refine (NX.out _ _ h1).mono ?_); rintro e w2 ⟨rfl, k2⟩; have h2 := h1.since stR k2; have HD2 := Lib.hid (HD.out.since stR ((since_alloc w1 _).trans k2)); clear h1)
    | (go_at_call 13; (with_reducible refine (R1.out _ _ HD2.out).mono ?_); rintro e w3 ⟨rfl, k3⟩; have h3 := h2.since stR k3; clear h2)
    | (go_at_call 14; (with_reducible refine (RI.out _ _ h3).mono ?_); rintro e w4 ⟨rfl, k4⟩; have h4 := h3.since stR k4; clear h3)
    | (go_at_call 22; (with_reducible refine (SZ.out _ _ h4).mono ?_); rintro e w5 ⟨rfl, k5⟩; have h5 := h4.since stR k5; clear h4)
    | (go_at_call 28; (with_reducible refine (ME.out _ _ h5).mono ?_); rintro e w6 ⟨A6, c6, rfl, h6, k6⟩)
    | (go_at_call 13; (with_reducible refine (R2.out _ _ h6).mono ?_); rintro e w7 ⟨rfl, k7⟩)
    | (go_at_call 20; (with_reducible refine (HA.out _).mono ?_); rintro e w8 ⟨rfl, k8⟩))
  go_ret
  exact ⟨rfl, (((((((k1.trans (since_alloc _ _)).trans k2).trans k3).trans k4).trans k5).trans k6).trans k7).trans k8⟩
end Go.Proofs.Ytdlbfpodgjkimaa.Zs
