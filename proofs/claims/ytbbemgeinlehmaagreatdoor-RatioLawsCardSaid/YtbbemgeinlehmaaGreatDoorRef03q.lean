/- What the document's own fit of layer 3 gives back. -/
import Derived.Test.YtbbemgeinlehmaaGreatDoorRb
import Derived.Deep.RegionHeld3
namespace Go.Proofs.YtbbemgeinlehmaaGreatDoor.Ref03
open Go.RowKit
set_option linter.unusedVariables false
open Go.Proofs.YtbbemgeinlehmaaGreatDoor.Dig

theorem fit_any (A : Option Addr) (c : Nat) (neg : Bool) (ds : List Nat) (w : World) (h : Row w (.slice A ds.length c) ds) (hl : ds.length ≤ 1000000) :
    Calls Tryz.prog 82 #[sv neg (.slice A ds.length c)] w (if ds.length ≤ 256 then RetSErr neg ds 0 w else RetSErr false [] 3 w) := by
  have H := Lib.hid h
  clear h
  by_cases hb : ds.length ≤ 256
  · rw [if_pos hb]
    go_enter Tryz.func82, Tryz.ntmps82
    go_wp2
    refine bodyPost_ret (v := .tuple #[sv neg (.slice A ds.length c), .int .i64 0]) ?_ rfl ?_
    · simp [results, Tryz.results82, go_sem]
    · exact ⟨_, _, rfl, H.out.since (((Since.refl w).alloc _).alloc _), ((Since.refl w).alloc _).alloc _⟩
  · rw [if_neg hb]
    go_enter Tryz.func82, Tryz.ntmps82
    go_wp2
    refine bodyPost_ret (v := .tuple #[sv false (.slice none 0 0), .int .i64 3]) ?_ rfl ?_
    · simp [results, Tryz.results82, go_sem]
    · exact ⟨_, _, rfl, Row.nil _, ((Since.refl w).alloc _).alloc _⟩
end Go.Proofs.YtbbemgeinlehmaaGreatDoor.Ref03
