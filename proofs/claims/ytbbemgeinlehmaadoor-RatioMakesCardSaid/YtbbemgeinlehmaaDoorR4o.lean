/- What the document's own Of of layer 4 gives back. -/
import Derived.Test.YtbbemgeinlehmaaDoorQa
import Derived.Test.YtbbemgeinlehmaaDoorRb
import Derived.Deep.DeepCutAuto
namespace Go.Proofs.YtbbemgeinlehmaaDoor.Ref04
open Go.RowKit
set_option linter.unusedVariables false
open Go.Proofs.YtbbemgeinlehmaaDoor.Dig Go.Proofs.YtbbemgeinlehmaaDoor.R4 Go.Proofs.YtbbemgeinlehmaaDoor.Fr
open Go.Proofs.YtbbemgeinlehmaaDoor.Ref03 (sv srightB gcdZ divZ negZ mulZ addZ cmpZ textZ sval ngB mag RetZ RetQR RetS)

theorem of_one (w : World) : Calls Tryd.prog 36 #[.int .i64 1] w (RetS (ngB 1) (mag 1) w) := Ref03.of_any 1 w (by omega)
set_option maxRecDepth 100000 in
set_option maxHeartbeats 4000000 in
theorem of_any (n : Int) (w : World) (hn : -9223372036854775808 ≤ n ∧ n ≤ 9223372036854775807) :
    Calls Tryd.prog 16 #[.int .i64 n] w (RetFv (ofR n) w) := by
  obtain ⟨W0, hW0⟩ : ∃ W0, W0 = w.alloc (.cells #[.bool false, .slice none 0 0, .bool false, .slice none 0 0] 26) := ⟨_, rfl⟩
  have HW := Lib.hid hW0
  have hS0 : Since w W0 := by rw [hW0]; exact (Since.refl w).alloc _
  have hbx : Hid (∀ W : World, Since W0 W → Bx W (w.heap.size) #[.bool false, .slice none 0 0, .bool false, .slice none 0 0] 26) := fun W h => Bx.new (hW0 ▸ h) (by simp)
  clear hW0
  have hK := Since.refl W0
  go_enter Tryd.func16, Tryd.ntmps16
  go_wp2_with fail
  rw [← HW.out]
  go_wp2_with (first
    | (go_at_call 36; (with_reducible refine (of_one _).mono ?_); rintro e w2 ⟨Y, y, rfl, ry, h⟩; have rx := rx.since h; have hK := hK.trans h; obtain B0 := hbx.out _ hK; obtain ⟨r0a, r0b, r0c, r0d⟩ := B0.four; obtain ⟨f0a, f0b, f0c, f0d⟩ := B0.four')
    | (go_at_call 36; (with_reducible refine (Ref03.of_any n _ hn).mono ?_); rintro e w1 ⟨X, x, rfl, rx, h⟩; have hK := hK.trans h; obtain B0 := hbx.out _ hK; obtain ⟨r0a, r0b, r0c, r0d⟩ := B0.four; obtain ⟨f0a, f0b, f0c, f0d⟩ := B0.four'))
  have gr := hbx.out _ hK
  obtain ⟨r0a, r0b, r0c, r0d⟩ := gr.four
  obtain ⟨f0a, f0b, f0c, f0d⟩ := gr.four'
  go_wp2_with fail
  obtain ⟨r0a, r0b, r0c, r0d⟩ := gr.four
  obtain ⟨f0a, f0b, f0c, f0d⟩ := gr.four'
  refine bodyPost_ret (v := (.agg #[.bool (ngB n), .slice X (mag n).length x, .bool (ngB 1), .slice Y (mag 1).length y])) ?_ rfl ?_
  · simp [results, Tryd.results16, go_sem, r0a, r0b, r0c, r0d]
  · exact ⟨_, _, _, _, rfl, gr.rowsR rx (put4_far _ _ _ _ _ _), gr.rowsR ry (put4_far _ _ _ _ _ _), since_put4 (hS0.trans hK) (by omega) _ _ _ _⟩
end Go.Proofs.YtbbemgeinlehmaaDoor.Ref04
