/- What Text of package signed gives back. -/
import Derived.Test.YtbbemgeinlehmaaGreatDoorSb
import Derived.Test.YtbbemgeinlehmaaGreatDoorNt
namespace Go.Proofs.YtbbemgeinlehmaaGreatDoor.Sg03
open Go.RowKit
set_option linter.unusedVariables false
open Go.Proofs.YtbbemgeinlehmaaGreatDoor.Dig
open Go.Proofs.YtbbemgeinlehmaaGreatDoor.Ref03

set_option maxRecDepth 100000 in
set_option maxHeartbeats 1000000 in
theorem text_any (A0 : Option Addr) (c0 : Nat) (na : Bool) (xs : List Nat) (w : World) (hx : Row w (.slice A0 xs.length c0) xs) (lx : xs.length ≤ 1000) :
    Calls Tryz.prog 56 #[sv na (.slice A0 xs.length c0)] w fun e w' => e = .returned (.tuple #[.string ⟨(textZ na xs).1.toArray⟩, .int .i64 (textZ na xs).2]) ∧ Since w w' := by
  have H := Lib.hid hx
  have LL := Lib.hid lx
  have HD := Lib.hid hx.dig
  obtain ⟨W0, hW0⟩ : ∃ W0, W0 = w.alloc (.cells #[.bool na, .slice A0 xs.length c0] 29) := ⟨_, rfl⟩
  have HW := Lib.hid hW0
  have hold : Hid (∀ W : World, Since W0 W → (W.cell? ⟨w.heap.size, 0, none⟩ = some (.bool na) ∧ W.cell? ⟨w.heap.size, 1, none⟩ = some (.slice A0 xs.length c0))) := fun W h => hold1 (hW0 ▸ h)
  have hS0 : Since w W0 := by rw [hW0]; exact (Since.refl w).alloc _
  have hK := Since.refl W0
  clear hW0 hx lx
  by_cases r1 : srightB na xs = true
  · have R1 := Lib.hid r1
    have ed : Ref02.textD xs = (text (num xs), 0) := by unfold Ref02.textD; rw [if_pos (sright_right r1)]
    have hlen : (text (num xs)).length ≤ 20000 := by
      have h1 := decs_num_len HD.out
      have h2 := LL.out
      unfold text; split
      · simp
      · omega
    obtain ⟨L, hL⟩ : ∃ L, L = text (num xs) := ⟨_, rfl⟩
    rw [← hL] at hlen ed
    have ED := Lib.hid ed
    have EV := Lib.hid (show textZ na xs = ((if na = true then 45 :: L else L), 0) by rw [textZ, if_pos r1, hL])
    clear r1 hL ed
    cases na
    · go_enter Tryz.func56, Tryz.ntmps56
      go_wp2_with fail
      rw [← HW.out]
      go_wp2_with (first
        | (go_at_call 65; (with_reducible refine (right_any (.slice A0 xs.length c0) false xs _ (H.out.since (hS0.trans hK)) (by have := LL.out; omega)).mono ?_); rw [R1.out]; rintro e w1 ⟨rfl, h1⟩; have hK := hK.trans h1; obtain ⟨k0, k1⟩ := hold.out _ hK)
        | (go_at_call 84; (with_reducible refine (Nat02.text_any (.slice A0 xs.length c0) xs _ (H.out.since (hS0.trans hK)) (by have := LL.out; omega)).mono ?_); rw [ED.out]; rintro e w2 ⟨rfl, h2⟩; have hK := hK.trans h2; obtain ⟨k0, k1⟩ := hold.out _ hK))
      go_ret2
      exact ⟨by rw [EV.out]; rfl, hS0.trans hK⟩
    · go_enter Tryz.func56, Tryz.ntmps56
      go_wp2_with fail
      rw [← HW.out]
      go_wp2_with (first
        | (go_at_call 65; (with_reducible refine (right_any (.slice A0 xs.length c0) true xs _ (H.out.since (hS0.trans hK)) (by have := LL.out; omega)).mono ?_); rw [R1.out]; rintro e w1 ⟨rfl, h1⟩; have hK := hK.trans h1; obtain ⟨k0, k1⟩ := hold.out _ hK)
        | (go_at_call 84; (with_reducible refine (Nat02.text_any (.slice A0 xs.length c0) xs _ (H.out.since (hS0.trans hK)) (by have := LL.out; omega)).mono ?_); rw [ED.out]; rintro e w2 ⟨rfl, h2⟩; have hK := hK.trans h2; obtain ⟨k0, k1⟩ := hold.out _ hK))
      go_ret2
      have ev : textZ true xs = (45 :: L, 0) := EV.out.trans (by simp)
      rw [ev]
      exact ⟨congrArg (fun b : ByteArray => Ending.returned (.tuple #[.string b, .int .i64 0])) (bytes_cons 45 L), hS0.trans hK⟩
  · have R1 := Lib.hid (show srightB na xs = false by simpa using r1)
    have EV := Lib.hid (show textZ na xs = ([], 2) by rw [textZ, if_neg r1])
    clear r1
    go_enter Tryz.func56, Tryz.ntmps56
    go_wp2_with fail
    rw [← HW.out]
    go_wp2_with (first
      | (go_at_call 65; (with_reducible refine (right_any (.slice A0 xs.length c0) na xs _ (H.out.since (hS0.trans hK)) (by have := LL.out; omega)).mono ?_); rw [R1.out]; rintro e w1 ⟨rfl, h1⟩; have hK := hK.trans h1; obtain ⟨k0, k1⟩ := hold.out _ hK))
    go_ret2
    exact ⟨by rw [EV.out]; rfl, hS0.trans hK⟩
end Go.Proofs.YtbbemgeinlehmaaGreatDoor.Sg03
