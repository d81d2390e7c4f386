/- What the document's own Of gives back. -/
import Derived.Test.YtbkkalmdjcpgoaaDoorRef02d
namespace Go.Proofs.YtbkkalmdjcpgoaaDoor.Ref02
open Go.RowKit
set_option linter.unusedVariables false
open Go.Proofs.YtbkkalmdjcpgoaaDoor.Dig

theorem of_row (u : Nat) (w : World) (hd : IsDig [u % 4294967296, u / 4294967296]) :
    Row (w.alloc (.cells #[.int .u32 ((u : Int) % 4294967296), .int .u32 ((u : Int) / 4294967296)] 81)) (.slice (some ⟨w.heap.size, 0, none⟩) 2 2) [u % 4294967296, u / 4294967296] := by
  refine ⟨hd, some ⟨w.heap.size, 0, none⟩, 2, rfl, fun _ => ⟨w.heap.size, 0, rfl, fun i hi => ?_⟩, Nat.le_refl _⟩
  have hi2 : i < 2 := by simpa using hi
  rcases (show i = 0 ∨ i = 1 by omega) with rfl | rfl
  · simp [List.getD]
  · simp [List.getD]
theorem of_any (u : Nat) (w : World) (hu : u < 18446744073709551616) :
    Calls Tryd.prog 55 #[.int .u64 (u : Int)] w (RetRow (digs u) w) := by
  have e : num [u % 4294967296, u / 4294967296] = u := by simp only [num]; omega
  have hd : IsDig [u % 4294967296, u / 4294967296] := by
    intro x hx
    simp at hx
    omega
  have HE := Lib.hid (And.intro e hd)
  clear e hd
  go_enter Tryd.func55, Tryd.ntmps55
  have HR := Lib.hid (of_row u w HE.out.2)
  go_wp2_with (go_at_call 68; refine (trim_any _ [u % 4294967296, u / 4294967296] _ HR.out (by simp)).mono ?_; rw [HE.out.1]; rintro e w' ⟨v, rfl, hr, hs⟩)
  go_ret
  exact ⟨_, rfl, ‹_›, ((Since.refl w).alloc _).trans ‹_›⟩

end Go.Proofs.YtbkkalmdjcpgoaaDoor.Ref02
