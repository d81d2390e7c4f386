/- What the document's own Small of layer 3 gives back. -/
import Derived.Test.YtbkkalmdjcpgoaaDoorRef03r
import Derived.Test.YtbkkalmdjcpgoaaDoorRef02l
namespace Go.Proofs.YtbkkalmdjcpgoaaDoor.Ref03
open Go.RowKit
set_option linter.unusedVariables false
open Go.Proofs.YtbkkalmdjcpgoaaDoor.Dig

set_option maxRecDepth 100000 in
set_option maxHeartbeats 1000000 in
theorem small_any (A0 : Option Addr) (c0 : Nat) (na : Bool) (xs : List Nat) (w : World) (hx : Row w (.slice A0 xs.length c0) xs) (lx : xs.length ≤ 1000) :
    Calls Tryd.prog 40 #[sv na (.slice A0 xs.length c0)] w fun e w' => e = .returned (.tuple #[.int .i64 (smallZ na xs).1, .int .i64 (smallZ na xs).2]) ∧ Since w w' := by
  have H := Lib.hid hx
  have LL := Lib.hid lx
  have HD := Lib.hid hx.dig
  obtain ⟨W0, hW0⟩ : ∃ W0, W0 = w.alloc (.cells #[.bool na, .slice A0 xs.length c0] 65) := ⟨_, rfl⟩
  have HW := Lib.hid hW0
  have hold : Hid (∀ W : World, Since W0 W → (W.cell? ⟨w.heap.size, 0, none⟩ = some (.bool na) ∧ W.cell? ⟨w.heap.size, 1, none⟩ = some (.slice A0 xs.length c0))) := fun W h => hold1 (hW0 ▸ h)
  have hS0 : Since w W0 := by rw [hW0]; exact (Since.refl w).alloc _
  have hK := Since.refl W0
  clear hW0 hx lx
  by_cases r1 : srightB na xs = true
  · have R1 := Lib.hid r1
    have hr := sright_right r1
    by_cases hl : 2 < xs.length
    · have eu : uintD xs = (0, 4) := by unfold uintD; rw [if_pos hr, if_pos hl]
      have hbig := num_long HD.out (right_norm hr).2 hl
      have ev : smallZ na xs = (0, 4) := by
        rw [smallZ, if_pos r1, if_neg]
        unfold fitsI sval
        cases na <;> simp <;> omega
      have EU := Lib.hid eu
      have EV := Lib.hid ev
      clear r1 hr hl eu ev hbig
      go_enter Tryd.func40, Tryd.ntmps40
      go_wp2_with fail
      rw [← HW.out]
      go_wp2_with (first
        | (go_at_call 56; (with_reducible refine (right_any (.slice A0 xs.length c0) na xs _ (H.out.since (hS0.trans hK)) (by have := LL.out; omega)).mono ?_); rw [R1.out]; rintro e w1 ⟨rfl, h1⟩; have hK := hK.trans h1; obtain ⟨k0, k1⟩ := hold.out _ hK)
        | (go_at_call 57; (with_reducible refine (Ref02.uint_any (.slice A0 xs.length c0) xs _ (H.out.since (hS0.trans hK)) (by have := LL.out; omega)).mono ?_); rw [EU.out]; rintro e w2 ⟨rfl, h2⟩; have hK := hK.trans h2; obtain ⟨k0, k1⟩ := hold.out _ hK))
      go_ret2
      exact ⟨by rw [EV.out]; rfl, hS0.trans hK⟩
    · have eu : uintD xs = (num xs, 0) := by unfold uintD; rw [if_pos hr, if_neg hl]
      have hlt : num xs < 18446744073709551616 := by
        have h := (Ref02.num_short HD.out (by omega) 0).1
        simpa using h
      have EU := Lib.hid eu
      obtain ⟨n, hn⟩ : ∃ n, n = num xs := ⟨_, rfl⟩
      have hpos : na = true → 0 < n := fun h => by subst h; rw [hn]; exact sright_pos r1
      have EV := Lib.hid (show smallZ na xs = if fitsI (if na = true then -(n : Int) else (n : Int)) then ((if na = true then -(n : Int) else (n : Int)), 0) else (0, 4) by rw [smallZ, if_pos r1, sval, hn])
      rw [← hn] at hlt
      have HE := Lib.hid (show uintD xs = (n, 0) by rw [EU.out, hn])
      clear r1 hr hl eu EU hn
      cases na
      · by_cases hf : n ≤ 9223372036854775807
        · have EX := Lib.hid (show smallZ false xs = ((n : Int), 0) by rw [EV.out, if_pos (by unfold fitsI; simp <;> omega)]; simp)
          have hz : decide ((9223372036854775808 : Int) ≤ (n : Int)) = false := by rw [decide_eq_false_iff_not]; omega
          clear EV hpos
          go_enter Tryd.func40, Tryd.ntmps40
          go_wp2_with fail
          rw [← HW.out]
          go_wp2_with (first
            | (go_at_call 56; (with_reducible refine (right_any (.slice A0 xs.length c0) false xs _ (H.out.since (hS0.trans hK)) (by have := LL.out; omega)).mono ?_); rw [R1.out]; rintro e w1 ⟨rfl, h1⟩; have hK := hK.trans h1; obtain ⟨k0, k1⟩ := hold.out _ hK)
            | (go_at_call 57; (with_reducible refine (Ref02.uint_any (.slice A0 xs.length c0) xs _ (H.out.since (hS0.trans hK)) (by have := LL.out; omega)).mono ?_); rw [HE.out]; rintro e w2 ⟨rfl, h2⟩; have hK := hK.trans h2; obtain ⟨k0, k1⟩ := hold.out _ hK))
          go_ret2
          exact ⟨by rw [EX.out]; go_num, hS0.trans hK⟩
        · have EX := Lib.hid (show smallZ false xs = (0, 4) by rw [EV.out, if_neg (by unfold fitsI; simp <;> omega)])
          have hz : decide ((9223372036854775808 : Int) ≤ (n : Int)) = true := by rw [decide_eq_true_iff]; omega
          clear EV hpos
          go_enter Tryd.func40, Tryd.ntmps40
          go_wp2_with fail
          rw [← HW.out]
          go_wp2_with (first
            | (go_at_call 56; (with_reducible refine (right_any (.slice A0 xs.length c0) false xs _ (H.out.since (hS0.trans hK)) (by have := LL.out; omega)).mono ?_); rw [R1.out]; rintro e w1 ⟨rfl, h1⟩; have hK := hK.trans h1; obtain ⟨k0, k1⟩ := hold.out _ hK)
            | (go_at_call 57; (with_reducible refine (Ref02.uint_any (.slice A0 xs.length c0) xs _ (H.out.since (hS0.trans hK)) (by have := LL.out; omega)).mono ?_); rw [HE.out]; rintro e w2 ⟨rfl, h2⟩; have hK := hK.trans h2; obtain ⟨k0, k1⟩ := hold.out _ hK))
          go_ret2
          exact ⟨by rw [EX.out]; rfl, hS0.trans hK⟩
      · have hpos := hpos rfl
        by_cases hf : n ≤ 9223372036854775808
        · have EX := Lib.hid (show smallZ true xs = (-(n : Int), 0) by rw [EV.out, if_pos (by unfold fitsI; simp <;> omega)]; simp)
          clear EV
          go_enter Tryd.func40, Tryd.ntmps40
          go_wp2_with fail
          rw [← HW.out]
          go_wp2_with (first
            | (go_at_call 56; (with_reducible refine (right_any (.slice A0 xs.length c0) true xs _ (H.out.since (hS0.trans hK)) (by have := LL.out; omega)).mono ?_); rw [R1.out]; rintro e w1 ⟨rfl, h1⟩; have hK := hK.trans h1; obtain ⟨k0, k1⟩ := hold.out _ hK)
            | (go_at_call 57; (with_reducible refine (Ref02.uint_any (.slice A0 xs.length c0) xs _ (H.out.since (hS0.trans hK)) (by have := LL.out; omega)).mono ?_); rw [HE.out]; rintro e w2 ⟨rfl, h2⟩; have hK := hK.trans h2; obtain ⟨k0, k1⟩ := hold.out _ hK))
          go_ret2
          exact ⟨by rw [EX.out]; go_num, hS0.trans hK⟩
        · have EX := Lib.hid (show smallZ true xs = (0, 4) by rw [EV.out, if_neg (by unfold fitsI; simp <;> omega)])
          clear EV
          go_enter Tryd.func40, Tryd.ntmps40
          go_wp2_with fail
          rw [← HW.out]
          go_wp2_with (first
            | (go_at_call 56; (with_reducible refine (right_any (.slice A0 xs.length c0) true xs _ (H.out.since (hS0.trans hK)) (by have := LL.out; omega)).mono ?_); rw [R1.out]; rintro e w1 ⟨rfl, h1⟩; have hK := hK.trans h1; obtain ⟨k0, k1⟩ := hold.out _ hK)
            | (go_at_call 57; (with_reducible refine (Ref02.uint_any (.slice A0 xs.length c0) xs _ (H.out.since (hS0.trans hK)) (by have := LL.out; omega)).mono ?_); rw [HE.out]; rintro e w2 ⟨rfl, h2⟩; have hK := hK.trans h2; obtain ⟨k0, k1⟩ := hold.out _ hK))
          go_ret2
          exact ⟨by rw [EX.out]; rfl, hS0.trans hK⟩
  · have R1 := Lib.hid (show srightB na xs = false by simpa using r1)
    have EV := Lib.hid (show smallZ na xs = (0, 2) by rw [smallZ, if_neg r1])
    clear r1
    go_enter Tryd.func40, Tryd.ntmps40
    go_wp2_with fail
    rw [← HW.out]
    go_wp2_with (first
      | (go_at_call 56; (with_reducible refine (right_any (.slice A0 xs.length c0) na xs _ (H.out.since (hS0.trans hK)) (by have := LL.out; omega)).mono ?_); rw [R1.out]; rintro e w1 ⟨rfl, h1⟩; have hK := hK.trans h1; obtain ⟨k0, k1⟩ := hold.out _ hK))
    go_ret2
    exact ⟨by rw [EV.out]; rfl, hS0.trans hK⟩
end Go.Proofs.YtbkkalmdjcpgoaaDoor.Ref03
