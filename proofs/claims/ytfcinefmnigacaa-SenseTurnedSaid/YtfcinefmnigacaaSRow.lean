/- A result of two cells, a truth value and a slice of digits, that a call lays ahead of its work: it is still there behind the calls in between. -/
import Derived.Test.YtfcinefmnigacaaRowNew
import Derived.Laws.Rows
namespace Go.Proofs.Ytfcinefmnigacaa
open Go.RowKit
set_option linter.unusedVariables false
open Go.Proofs.Ytfcinefmnigacaa.Dig

/-- ends with a slice that is seen as one -/
def RetSl (ds : List Nat) (w : World) (e : Ending) (w' : World) : Prop := ∃ A c, e = .returned (.slice A ds.length c) ∧ Row w' (.slice A ds.length c) ds ∧ Since w w'
theorem RetRow.sl {ds : List Nat} {w : World} {e : Ending} {w' : World} (h : RetRow ds w e w') : RetSl ds w e w' := by
  obtain ⟨v, rfl, hr, hs⟩ := h
  obtain ⟨h1, A, c, rfl, h3, h6⟩ := hr
  exact ⟨A, c, rfl, ⟨h1, A, c, rfl, h3, h6⟩, hs⟩
theorem Since.cell {a b : World} (h : Since a b) (p : Addr) (hp : p.block < a.heap.size) : b.cell? p = a.cell? p := Below.cell h hp
theorem block_new {w W : World} {o : Obj} (h : Since (w.alloc o) W) : W.heap[w.heap.size]? = some o := by
  rw [h.block w.heap.size (by simp), heap_alloc_new]
theorem keep2 {w W : World} {z0 z1 : Value} {t : TypeId} (h : Since (w.alloc (.cells #[z0, z1] t)) W) :
    W.cell? ⟨w.heap.size, 0, none⟩ = some z0 ∧ W.cell? ⟨w.heap.size, 1, none⟩ = some z1 ∧ W.frozen? ⟨w.heap.size, 0, none⟩ = false ∧ W.frozen? ⟨w.heap.size, 1, none⟩ = false := by
  refine ⟨?_, ?_, ?_, ?_⟩
  · rw [Below.cell h (by simp)]; simp
  · rw [Below.cell h (by simp)]; simp
  · rw [Below.frozen h (by simp)]; simp
  · rw [Below.frozen h (by simp)]; simp
/-- digits lie in no block of a truth value and a slice -/
theorem row_far {W W' : World} {b : Nat} {x : Bool} {A : Option Addr} {n c : Nat} {t : TypeId} {fz : Nat × Nat} {v : Value} {ds : List Nat} (h : Row W v ds)
    (hb : W.heap[b]? = some (.cells #[.bool x, .slice A n c] t fz)) (hk : ∀ k, k ≠ b → W'.heap[k]? = W.heap[k]?) : Row W' v ds := by
  obtain ⟨h1, A', c', h2, h3, h6⟩ := h
  refine ⟨h1, A', c', h2, fun hl => ?_, h6⟩
  obtain ⟨g, o, h4, h5⟩ := h3 hl
  refine ⟨g, o, h4, fun i hi => ?_⟩
  have hc := h5 i hi
  have hg : g ≠ b := by
    rintro rfl
    have e : W.cell? ⟨g, o + i, none⟩ = (#[Value.bool x, .slice A n c] : Array Value)[o + i]? := cell_of_row W g (o + i) _ t fz hb
    rw [e] at hc
    match o + i, hc with
    | 0, hc => simp at hc
    | 1, hc => simp at hc
    | k + 2, hc => simp at hc
  rw [World.cell?_of_block (w := W) (w' := W') (a := ⟨g, o + i, none⟩) (hk g hg)]
  exact hc
theorem row_set2 {w W : World} {x : Bool} {A : Option Addr} {n c : Nat} {t : TypeId} {v : Value} {ds : List Nat} (h : Row W v ds)
    (hb : Since (w.alloc (.cells #[.bool x, .slice A n c] t)) W) (u0 u1 : Value) : Row ((W.setCell ⟨w.heap.size, 0, none⟩ u0).setCell ⟨w.heap.size, 1, none⟩ u1) v ds :=
  row_far h (block_new hb) fun k hk => by
    rw [Below.heap_setCell _ _ _ _ (by simpa using hk), Below.heap_setCell _ _ _ _ (by simpa using hk)]
theorem since_set2 {w W : World} {o : Obj} (hb : Since (w.alloc o) W) (u0 u1 : Value) : Since w ((W.setCell ⟨w.heap.size, 0, none⟩ u0).setCell ⟨w.heap.size, 1, none⟩ u1) :=
  (((since_alloc w o).trans hb).set (Nat.le_refl _) _).set (Nat.le_refl _) _
end Go.Proofs.Ytfcinefmnigacaa
