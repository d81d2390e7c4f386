/- What the document's own Of and fit give back. -/
import Derived.Test.YtkceldnljppflaaDoorRef02d
namespace Go.Proofs.YtkceldnljppflaaDoor.Ref02
open Go.RowKit
set_option linter.unusedVariables false
open Go.Proofs.YtkceldnljppflaaDoor.Dig

theorem of_row (u : Nat) (w : World) (hd : IsDig [u % 4294967296, u / 4294967296]) :
    Row (w.alloc (.cells #[.int .u32 ((u : Int) % 4294967296), .int .u32 ((u : Int) / 4294967296)] 55)) (.slice (some ⟨w.heap.size, 0, none⟩) 2 2) [u % 4294967296, u / 4294967296] := by
  refine ⟨hd, some ⟨w.heap.size, 0, none⟩, 2, rfl, fun _ => ⟨w.heap.size, 0, rfl, fun i hi => ?_⟩, Nat.le_refl _⟩
  have hi2 : i < 2 := by simpa using hi
  rcases (show i = 0 ∨ i = 1 by omega) with rfl | rfl
  · simp [List.getD]
  · simp [List.getD]
theorem of_any (u : Nat) (w : World) (hu : u < 18446744073709551616) :
    Calls Tryd.prog 21 #[.int .u64 (u : Int)] w (RetRow (digs u) w) := by
  have e : num [u % 4294967296, u / 4294967296] = u := by simp only [num]; omega
  have hd : IsDig [u % 4294967296, u / 4294967296] := by
    intro x hx
    simp at hx
    omega
  have HE := Lib.hid (And.intro e hd)
  clear e hd
  go_enter Tryd.func21, Tryd.ntmps21
  have HR := Lib.hid (of_row u w HE.out.2)
  go_wp2_with (go_at_call 39; refine (trim_any _ [u % 4294967296, u / 4294967296] _ HR.out (by simp)).mono ?_; rw [HE.out.1]; rintro e w' ⟨v, rfl, hr, hs⟩)
  go_ret
  exact ⟨_, rfl, ‹_›, ((Since.refl w).alloc _).trans ‹_›⟩
theorem fit_any (v : Value) (ds : List Nat) (w : World) (h : Row w v ds) (hl : ds.length ≤ 1000000) :
    Calls Tryd.prog 42 #[v] w (if ds.length ≤ 256 then RetRowErr ds 0 w else RetRowErr [] 3 w) := by
  have H := Lib.hid h
  obtain ⟨_, A, c, rfl, _, -⟩ := h
  by_cases hb : ds.length ≤ 256
  · rw [if_pos hb]
    go_enter Tryd.func42, Tryd.ntmps42
    go_wp2
    go_ret2
    exact ⟨_, rfl, H.out, Since.refl _⟩
  · rw [if_neg hb]
    go_enter Tryd.func42, Tryd.ntmps42
    go_wp2
    go_ret2
    exact ⟨_, rfl, Row.nil _, Since.refl _⟩
end Go.Proofs.YtkceldnljppflaaDoor.Ref02
