/- Layer 5: the size of joined texts. No code is spoken of. -/
import Derived.Test.YtgcfemnigpjadaaDoorVa
namespace Go.Proofs.YtgcfemnigpjadaaDoor.Ref05
open Go.RowKit
set_option linter.unusedVariables false
set_option linter.unusedSimpArgs false
open Go.Proofs.YtgcfemnigpjadaaDoor.Dig Go.Proofs.YtgcfemnigpjadaaDoor.Lx Go.Proofs.YtgcfemnigpjadaaDoor.Tk

theorem ret_str {a b : ByteArray} (h : a = b) : Ending.returned (.string a) = .returned (.string b) := by rw [h]
theorem joinB_size (m : Nat) : ∀ ts : List Tv, (∀ t ∈ ts, t.s.size ≤ m) → (joinB ts).size ≤ ts.length * (m + 1)
  | [], _ => Nat.le_of_eq (Nat.zero_mul _).symm
  | [t], h => by have := h t (by simp); simp only [joinB, List.length_cons, List.length_nil]; omega
  | t :: u :: r, h => by
    have h1 := h t (by simp)
    have h2 := joinB_size m (u :: r) (fun x hx => h x (by simp at hx ⊢; exact .inr hx))
    simp only [joinB, List.length_cons, ByteArray.size_append] at h2 ⊢
    have e : ByteArray.size ⟨#[32]⟩ = 1 := rfl
    rw [e]
    have e2 : (r.length + 1 + 1) * (m + 1) = (r.length + 1) * (m + 1) + (m + 1) := by rw [Nat.succ_mul]
    omega
end Go.Proofs.YtgcfemnigpjadaaDoor.Ref05
