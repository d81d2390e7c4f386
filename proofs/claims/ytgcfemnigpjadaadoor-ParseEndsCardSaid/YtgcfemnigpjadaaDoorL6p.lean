/- What starts of layer 6's law gives back, where it is true. -/
import Derived.Test.YtgcfemnigpjadaaDoorVp
import Derived.Test.YtgcfemnigpjadaaDoorTi
namespace Go.Proofs.YtgcfemnigpjadaaDoor.Law06
open Go.RowKit
set_option linter.unusedVariables false
set_option linter.unusedSimpArgs false
open Go.Proofs.YtgcfemnigpjadaaDoor.Dig Go.Proofs.YtgcfemnigpjadaaDoor.Lx Go.Proofs.YtgcfemnigpjadaaDoor.Tk Go.Proofs.YtgcfemnigpjadaaDoor.Ps Go.Proofs.YtgcfemnigpjadaaDoor.Ti

theorem starts_cases {x : It} {c : Bs} (h : startsD x c = true) :
    (c = [105, 110, 116] ∧ x.kind = 1 ∧ x.bool = false) ∨ (c = [98, 111, 111, 108] ∧ x.kind = 1 ∧ x.bool = true) ∨ (c = [118, 97, 114] ∧ x.kind = 2) ∨ (c = [97, 114, 114, 97, 121] ∧ x.kind = 3) ∨ (c = [97, 114, 114, 97, 121] ∧ x.kind = 4) ∨
    (c = [99, 111, 110, 115, 116, 114, 97, 105, 110, 116] ∧ x.kind = 5) ∨ (c = [115, 111, 108, 118, 101] ∧ x.kind = 6) := by
  unfold startsD at h
  split at h
  · simp only [Bool.and_eq_true, decide_eq_true_eq, Bool.not_eq_true'] at h
    exact .inl ⟨by assumption, h⟩
  split at h
  · simp only [Bool.and_eq_true, decide_eq_true_eq] at h
    exact .inr (.inl ⟨by assumption, h⟩)
  split at h
  · simp only [decide_eq_true_eq] at h
    exact .inr (.inr (.inl ⟨by assumption, h⟩))
  split at h
  · simp only [Bool.or_eq_true, decide_eq_true_eq] at h
    rcases h with h | h
    · exact .inr (.inr (.inr (.inl ⟨by assumption, h⟩)))
    · exact .inr (.inr (.inr (.inr (.inl ⟨by assumption, h⟩))))
  split at h
  · simp only [decide_eq_true_eq] at h
    exact .inr (.inr (.inr (.inr (.inr (.inl ⟨by assumption, h⟩)))))
  · simp only [Bool.and_eq_true, decide_eq_true_eq] at h
    exact .inr (.inr (.inr (.inr (.inr (.inr h)))))
theorem of_L {s : ByteArray} {c : Bs} (h : L s = c) : s = ⟨c.toArray⟩ := L_inj (by rw [h]; rfl)
set_option maxHeartbeats 2000000 in
theorem starts_any (x : It) (s : ByteArray) (d v : Value) (w : World) (h : startsD x (L s) = true) :
    Calls Tryd.prog 13 #[.agg #[.int .i64 x.kind, .string x.name, .bool x.bool, d, .int .i64 x.size, .bool x.out, v, .int .i64 x.ask], .string s] w fun e w' => e = .returned (.bool true) ∧ Since w w' := by
  obtain ⟨ki, nm, bo, dm, sz, ou, vs, ak⟩ := x
  rcases starts_cases h with ⟨h1, h2, h3⟩ | ⟨h1, h2, h3⟩ | ⟨h1, h2⟩ | ⟨h1, h2⟩ | ⟨h1, h2⟩ | ⟨h1, h2⟩ | ⟨h1, h2⟩ <;> (obtain rfl := of_L h1; simp only at h2; subst h2; try (simp only at h3; subst h3)) <;> clear h1 h
  all_goals
    go_enter Tryd.func13, Tryd.ntmps13
    go_wp2
    go_ret
    exact ⟨rfl, by first | exact Since.refl _ | exact since_alloc _ _ | exact (since_alloc _ _).drew | exact (since_alloc _ _).trans (since_alloc _ _)⟩
end Go.Proofs.YtgcfemnigpjadaaDoor.Law06
