/- What the document's own Uint gives back. -/
import Derived.Test.YtbkkalmdjcpgoaaDoorRef02d
namespace Go.Proofs.YtbkkalmdjcpgoaaDoor.Ref02
open Go.RowKit
set_option linter.unusedVariables false
open Go.Proofs.YtbkkalmdjcpgoaaDoor.Dig



set_option maxRecDepth 100000 in
set_option maxHeartbeats 1000000 in
theorem uint_any (va : Value) (xs : List Nat) (w : World) (hx : Row w va xs) (lx : xs.length ≤ 10000) :
    Calls Tryd.prog 57 #[va] w fun e w' => e = .returned (.tuple #[.int .u64 (((uintD xs).1 : Nat) : Int), .int .i64 (uintD xs).2]) ∧ Since w w' := by
  have HX := Lib.hid hx
  have LX := Lib.hid lx
  obtain ⟨dx, A, cA, rfl, hcx, -⟩ := hx
  have HC := Lib.hid hcx
  have HD := Lib.hid dx
  clear hcx dx
  by_cases r1 : rightB xs = true
  · by_cases hl : 2 < xs.length
    · have es : uintD xs = (0, 4) := by unfold uintD; rw [if_pos r1, if_pos hl]
      rw [es]
      clear es
      go_enter Tryd.func57, Tryd.ntmps57
      go_wp2_with (first
        | (go_at_call 70; (with_reducible refine (right_any (.slice A xs.length cA) xs _ HX.out (by have := LX.out; omega)).mono ?_); rintro e w1 ⟨rfl, rfl⟩))
      go_ret2
      exact ⟨rfl, Since.refl _⟩
    · have es : uintD xs = (num xs, 0) := by unfold uintD; rw [if_pos r1, if_neg hl]
      rw [es]
      have hl2 : xs.length ≤ 2 := by omega
      clear es hl
      go_enter Tryd.func57, Tryd.ntmps57
      go_wp2_with (first
        | (go_at_call 70; (with_reducible refine (right_any (.slice A xs.length cA) xs _ HX.out (by have := LX.out; omega)).mono ?_); rintro e w1 ⟨rfl, rfl⟩))
      go_loop [4, 5] (fun u i => ∃ k : Nat, k ≤ xs.length ∧ i = .int .i64 ((k : Int) - 1) ∧ u = .int .u64 ((num (xs.drop k) : Nat) : Int)) (fun _ i => (intOf i + 1).toNat)
      case atStart => exact ⟨xs.length, Nat.le_refl _, rfl, by rw [List.drop_of_length_le (Nat.le_refl _)]; rfl⟩
      case round =>
        obtain ⟨k, hk, rfl, rfl⟩ := hrel
        rcases k with _ | j
        · go_wp2
          go_ret2
          exact ⟨rfl, Since.refl _⟩
        · have e : ((j + 1 : Nat) : Int) - 1 = (j : Int) := by omega
          rw [e]
          clear e
          obtain ⟨b, o, rfl, hcc⟩ := HC.out (by omega)
          have hcell := hcc j (by omega)
          have h2 := (num_short HD.out hl2 (j + 1)).2 (by omega)
          have h3 := num_drop (ds := xs) (j := j) (by omega)
          have hdb := getD_lt HD.out j
          obtain ⟨x, hx⟩ : ∃ x, x = xs.getD j 0 := ⟨_, rfl⟩
          obtain ⟨n, hn⟩ : ∃ n, n = num (xs.drop (j + 1)) := ⟨_, rfl⟩
          rw [← hx] at hcell h3 hdb
          rw [← hn] at h2 h3 ⊢
          have HH := Lib.hid h3
          have hj : j < xs.length := by omega
          clear hcc h3 hn hx
          go_wp2
          go_round
          case rel => exact ⟨j, by omega, rfl, by rw [HH.out]; go_num⟩
          case measure => simp [intOf] <;> omega
  · have r1' : rightB xs = false := by simpa using r1
    have es : uintD xs = (0, 2) := by unfold uintD; rw [if_neg (by simp [r1'])]
    rw [es]
    clear es r1
    go_enter Tryd.func57, Tryd.ntmps57
    go_wp2_with (first
      | (go_at_call 70; (with_reducible refine (right_any (.slice A xs.length cA) xs _ HX.out (by have := LX.out; omega)).mono ?_); rintro e w1 ⟨rfl, rfl⟩))
    go_ret2
    exact ⟨rfl, Since.refl _⟩
end Go.Proofs.YtbkkalmdjcpgoaaDoor.Ref02
