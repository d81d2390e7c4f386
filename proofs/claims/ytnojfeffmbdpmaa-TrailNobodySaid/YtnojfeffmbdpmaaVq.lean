/- Layer 10 (trail): slices.Sort on integers. -/
import Derived.Test.YtnojfeffmbdpmaaVm
import Derived.Test.YtnojfeffmbdpmaaShelfI
import Derived.Sort.OwnSortedInts
namespace Go.Proofs.Ytnojfeffmbdpmaa.Tr
open Go.RowKit
set_option linter.unusedVariables false
set_option linter.unusedSimpArgs false
open Go.Proofs.Ytnojfeffmbdpmaa.Dig Go.Proofs.Ytnojfeffmbdpmaa.Lx Go.Proofs.Ytnojfeffmbdpmaa.Tk Go.Proofs.Ytnojfeffmbdpmaa.Ti Go.Proofs.Ytnojfeffmbdpmaa.Zs

theorem len_zero (w : World) : Calls Try.prog 45 #[.int .u64 0] w fun e w' => e = .returned (.int .i64 0) ∧ w' = w :=
  (calls_of_every_depth fun D => AnyS.bits_LenIn { Sh.lays189 with } D 0 w (by omega) (by omega)).mono fun _ _ h => by
    obtain ⟨h1, h2⟩ := h
    exact ⟨by rw [h1]; rfl, h2⟩
theorem insertion_nil (p : Option Addr) (cap : Nat) (w : World) :
    Calls Try.prog 46 #[.slice p 0 cap, .int .i64 0, .int .i64 0] w fun e w' => e = .returned (.tuple #[]) ∧ w' = w := by
  go_enter Try.func46, Try.ntmps46
  go_wp2
  refine wp_loop_rounds 1 ?_
  rw [rounds_succ]
  go_wp2
  go_end0
  exact ⟨rfl, rfl⟩
set_option maxRecDepth 100000 in
theorem pdqsort_nil (p : Option Addr) (cap : Nat) (w : World) :
    Calls Try.prog 44 #[.slice p 0 cap, .int .i64 0, .int .i64 0, .int .i64 0] w fun e w' => e = .returned (.tuple #[]) ∧ w' = w := by
  go_enter Try.func44, Try.ntmps44
  go_wp2
  refine wp_loop_rounds 1 ?_
  rw [rounds_succ]
  go_wp2_with (first | (go_at_call 46; refine (insertion_nil p cap _).mono ?_; rintro e w' ⟨rfl, rfl⟩))
  refine bodyPost_ret (results_none rfl _ _ _) rfl ?_
  exact ⟨rfl, rfl⟩
set_option maxRecDepth 100000 in
theorem sort_nil (p : Option Addr) (cap : Nat) (w : World) :
    Calls Try.prog 38 #[.slice p 0 cap] w fun e w' => e = .returned (.tuple #[]) ∧ w' = w := by
  go_enter Try.func38, Try.ntmps38
  go_wp2_with (first
    | (go_at_call 45; refine (len_zero _).mono ?_; rintro e w' ⟨rfl, rfl⟩)
    | (go_at_call 44; refine (pdqsort_nil p cap _).mono ?_; rintro e w' ⟨rfl, rfl⟩))
  go_end0
  exact ⟨rfl, rfl⟩
theorem sort_says : SortSays := fun base w v xs h hl => by
  rcases h.2 with ⟨rfl, hn⟩ | ⟨g, cap, cur, rfl, hbg, hg, hnc, hcm, hcs, htake⟩
  · obtain rfl : xs = [] := List.eq_nil_of_length_eq_zero hn
    exact (sort_nil none 0 w).mono fun e w' hh => by
      obtain ⟨rfl, rfl⟩ := hh
      exact ⟨rfl, [], List.Perm.refl _, List.Pairwise.nil, h, World.grownBy.refl w' _⟩
  · have hlt : g < w.heap.size := (h.lt g rfl).2
    rw [Nat.mul_one] at htake
    refine (Sh.slices_Sort_int g 0 cap xs w (holds_of_blockI hg htake) hlt (by omega)).mono fun e w' hh => ?_
    obtain ⟨rfl, n, os, rfl⟩ := hh
    refine ⟨rfl, xs.mergeSort fun x y => decide (x ≤ y), List.mergeSort_perm _ _, ?_, ?_, ?_⟩
    · have := List.pairwise_mergeSort (le := fun x y : Int => decide (x ≤ y)) (fun a b c => by simp; omega) (fun a b => by simp; omega) xs
      exact this.imp fun h => by simpa using h
    · exact ownsRow_sortedI (by simp) hbg hg hnc hcm (by rw [hcs])
    · exact grownBy_sortedI _
theorem changed_any {G : Nat → Bool} {N : Nat} {w : World} {b : Nat} {s : Sto} (h0 : TrailAt G N w b s) (hG : ∀ k, G k = true → k < w.heap.size) (hN : N ≤ 900000) :
    Calls Try.prog 20 #[.pointer (some ⟨b, 0, none⟩)] w fun e w' => ∃ v, e = .returned v ∧ Sl 1 QI (veil G w') v (changedD s).2 ∧ TrailAt G N w' b (changedD s).1 ∧ Turn G w w' := tchanged_any sort_says h0 hG hN
theorem changed_no {w : World} {p : Option Addr} (h : Unmade w p) : Calls Try.prog 20 #[.pointer p] w fun e w' => e = .returned (.slice none 0 0) ∧ Since w w' := by
  have M := Lib.hid (made_no h)
  clear h
  go_enter Try.func20, Try.ntmps20
  go_wp2_with (go_at_call 33; (with_reducible refine (M.out).mono ?_); rintro e w1 ⟨rfl, k1⟩)
  go_ret
  exact ⟨rfl, k1⟩
theorem push_no {w : World} {p : Option Addr} (h : Unmade w p) : Calls Try.prog 15 #[.pointer p] w fun e w' => e = .returned (.int .i64 1) ∧ Since w w' := by
  have M := Lib.hid (made_no h)
  clear h
  go_enter Try.func15, Try.ntmps15
  go_wp2_with (go_at_call 33; (with_reducible refine (M.out).mono ?_); rintro e w1 ⟨rfl, k1⟩)
  go_ret
  exact ⟨rfl, k1⟩
theorem pop_no {w : World} {p : Option Addr} (h : Unmade w p) : Calls Try.prog 17 #[.pointer p] w fun e w' => e = .returned (.int .i64 1) ∧ Since w w' := by
  have M := Lib.hid (made_no h)
  clear h
  go_enter Try.func17, Try.ntmps17
  go_wp2_with (go_at_call 33; (with_reducible refine (M.out).mono ?_); rintro e w1 ⟨rfl, k1⟩)
  go_ret
  exact ⟨rfl, k1⟩
theorem narrow_no {w : World} {p : Option Addr} (h : Unmade w p) (x : Int) (v : Value) : Calls Try.prog 12 #[.pointer p, .int .i64 x, v] w fun e w' => e = .returned (.tuple #[.bool false, .int .i64 1]) ∧ Since w w' := by
  have M := Lib.hid (made_no h)
  clear h
  go_enter Try.func12, Try.ntmps12
  go_wp2_with (go_at_call 33; (with_reducible refine (M.out).mono ?_); rintro e w1 ⟨rfl, k1⟩)
  go_ret2
  exact ⟨rfl, k1⟩
end Go.Proofs.Ytnojfeffmbdpmaa.Tr
