/- The witness call of layer 1's statements gives true, and leaves what was there as it was. -/
import Derived.Test.YtodianconjkpoaaDots
import Derived.WalkSmall
namespace Go.Proofs.Ytodianconjkpoaa
open Go.RowKit
open Go.Proofs.Ytodianconjkpoaa.Num
open Go.Proofs.Ytodianconjkpoaa.Chk (Drew)

/-- what was there before is as it was -/
def Since (w w' : World) : Prop := Below w.heap.size w w'
theorem Since.refl (w : World) : Since w w := Below.refl _ _
theorem Since.trans {a b c : World} (h : Since a b) (k : Since b c) : Since a c := Below.trans h (Below.mono k h.size)
theorem Since.alloc {a b : World} (h : Since a b) (o : Obj) : Since a (b.alloc o) := Below.alloc h h.size o
theorem Since.drewN {a b : World} (h : Since a b) (n : Nat) : Since a (b.drewN n) := below_drewN h n
theorem since_drew {w w' : World} (h : Drew w w') : Since w w' := by
  obtain ⟨n, rfl⟩ := h; exact (Since.refl w).drewN n

namespace Alive01
theorem two_by_two (b0 c0 b1 c1 : Nat) (w : World) (h0 : w.cell? ⟨b0, 0, none⟩ = some (.int .i64 1)) (h1 : w.cell? ⟨b0, 1, none⟩ = some (.int .i64 2))
    (h2 : w.cell? ⟨b1, 0, none⟩ = some (.int .i64 3)) (h3 : w.cell? ⟨b1, 1, none⟩ = some (.int .i64 4)) :
    Calls Try.prog 21 #[.slice (some ⟨b0, 0, none⟩) 2 c0, .slice (some ⟨b1, 0, none⟩) 2 c1] w fun e w' => e = two 11 0 ∧ Since w w' := by
  refine (Dots.code_row b0 0 c0 b1 0 c1 2 (fun k => if k = 0 then 1 else 2) (fun k => if k = 0 then 3 else 4) w (by decide) ?_ ?_).mono fun e w' ⟨h, k⟩ => ⟨h.trans (two_eq (by decide) (by decide)), since_drew k⟩
  · intro k hk
    rcases (show k = 0 ∨ k = 1 by omega) with rfl | rfl
    · exact ⟨by decide, h0⟩
    · exact ⟨by decide, h1⟩
  · intro k hk
    rcases (show k = 0 ∨ k = 1 by omega) with rfl | rfl
    · exact ⟨by decide, h2⟩
    · exact ⟨by decide, h3⟩

theorem true_any (w : World) : Calls Try.prog 10 #[] w fun e w' => e = .returned (.bool true) ∧ Since w w' := by
  have f1 : flo (-7) 2 = -4 := by decide
  have f2 : dbad (-7) 2 = 0 := by decide
  have f3 : cei (-7) 2 = -3 := by decide
  have f4 : err (9223372036854775807 + 1) = 4 := by decide
  have f5 : val (9223372036854775807 + 1) = 0 := by decide
  go_enter Try.func10, Try.ntmps10
  go_wp2_with (first
    | (go_at_call 17; refine (Chk.floor_any _ _ (by decide) _).mono ?_; rintro e w1 ⟨rfl, hw1⟩)
    | (go_at_call 19; refine (Chk.ceil_any _ _ (by decide) _).mono ?_; rintro e w2 ⟨rfl, hw2⟩)
    | (go_at_call 11; refine (Chk.add_any _ _ (by decide) (by decide) _).mono ?_; rintro e w3 ⟨rfl, rfl⟩)
    | (go_at_call 21; refine (two_by_two _ _ _ _ _ (by go_simp) (by go_simp) (by go_simp) (by go_simp)).mono ?_; rintro e w4 ⟨rfl, hw4⟩))
  go_ret
  exact ⟨rfl, ((((Since.refl _).trans (since_drew ‹_›)).trans (since_drew ‹_›)).alloc _ |>.alloc _).trans ‹_›⟩
end Alive01
end Go.Proofs.Ytodianconjkpoaa
