/- Variables in blocks of their own: what a block of cells holds stays while the world grows, and behind a store elsewhere. No code is spoken of. -/
import Derived.Test.YtfcinefmnigacaaSRow
import Derived.Deep.RegionHeld3
namespace Go.Proofs.Ytfcinefmnigacaa
open Go.RowKit
set_option linter.unusedVariables false
open Go.Proofs.Ytfcinefmnigacaa.Dig

/-- block b holds these cells, and may be written -/
def Bx (W : World) (b : Nat) (cs : Array Value) (t : TypeId) : Prop := W.heap[b]? = some (.cells cs t)
theorem Bx.lt {W : World} {b : Nat} {cs : Array Value} {t : TypeId} (h : Bx W b cs t) : b < W.heap.size := by
  unfold Bx at h
  apply Decidable.byContradiction; intro hn
  rw [Array.getElem?_eq_none (by omega)] at h; cases h
theorem Bx.since {W W' : World} {b : Nat} {cs : Array Value} {t : TypeId} (h : Bx W b cs t) (k : Since W W') : Bx W' b cs t := by
  have hl := h.lt
  unfold Bx at *
  rw [k.block b hl]; exact h
theorem Bx.fresh (W : World) (cs : Array Value) (t : TypeId) : Bx (W.alloc (.cells cs t)) W.heap.size cs t := block_new (Since.refl _)
theorem Bx.new {W W' : World} {cs : Array Value} {t : TypeId} {n : Nat} (k : Since (W.alloc (.cells cs t)) W') (e : W.heap.size = n) : Bx W' n cs t := e ▸ (Bx.fresh W cs t).since k
theorem Bx.cell {W : World} {b : Nat} {cs : Array Value} {t : TypeId} (h : Bx W b cs t) (i : Nat) : W.cell? ⟨b, i, none⟩ = cs[i]? := cell_of_row W b i cs t (0, 0) h
theorem Bx.no {W : World} {b : Nat} {cs : Array Value} {t : TypeId} (h : Bx W b cs t) (i : Nat) : W.frozen? ⟨b, i, none⟩ = false := by
  unfold Bx at h
  simp [World.frozen?, h]
/-- no cell of the block is a digit -/
abbrev plainV : Value → Bool
  | .int .u32 _ => false
  | _ => true
theorem Bx.row {W : World} {b : Nat} {cs : Array Value} {t : TypeId} (h : Bx W b cs t) (hp : cs.all plainV = true) {v : Value} {ds : List Nat} (hr : Row W v ds) (i : Nat) (u : Value) : Row (W.setCell ⟨b, i, none⟩ u) v ds := by
  obtain ⟨h1, A, c, h2, h3, h6⟩ := hr
  refine ⟨h1, A, c, h2, fun hl => ?_, h6⟩
  obtain ⟨g, o, h4, h5⟩ := h3 hl
  refine ⟨g, o, h4, fun j hj => ?_⟩
  have hc := h5 j hj
  have hg : g ≠ b := by
    rintro rfl
    rw [h.cell] at hc
    have := Array.all_eq_true_iff_forall_mem.1 hp _ (Array.mem_of_getElem? hc)
    simp [plainV] at this
  rw [World.cell?_of_block (w := W) (a := ⟨g, o + j, none⟩) (Below.heap_setCell _ _ _ _ (by simpa using hg))]
  exact hc
theorem Bx.other {W : World} {b b' : Nat} {cs : Array Value} {t : TypeId} (h : Bx W b cs t) (hb : b ≠ b') (i : Nat) (u : Value) : Bx (W.setCell ⟨b', i, none⟩ u) b cs t := by
  unfold Bx at *
  rw [Below.heap_setCell _ _ _ _ (by simpa using hb)]; exact h
theorem Bx.two {W : World} {b : Nat} {z0 z1 : Value} {t : TypeId} (h : Bx W b #[z0, z1] t) : W.cell? ⟨b, 0, none⟩ = some z0 ∧ W.cell? ⟨b, 1, none⟩ = some z1 := ⟨h.cell 0, h.cell 1⟩
theorem Bx.four {W : World} {b : Nat} {z0 z1 z2 z3 : Value} {t : TypeId} (h : Bx W b #[z0, z1, z2, z3] t) :
    W.cell? ⟨b, 0, none⟩ = some z0 ∧ W.cell? ⟨b, 1, none⟩ = some z1 ∧ W.cell? ⟨b, 2, none⟩ = some z2 ∧ W.cell? ⟨b, 3, none⟩ = some z3 := ⟨h.cell 0, h.cell 1, h.cell 2, h.cell 3⟩
theorem Bx.two' {W : World} {b : Nat} {z0 z1 : Value} {t : TypeId} (h : Bx W b #[z0, z1] t) : W.frozen? ⟨b, 0, none⟩ = false ∧ W.frozen? ⟨b, 1, none⟩ = false := ⟨h.no 0, h.no 1⟩
theorem Bx.four' {W : World} {b : Nat} {z0 z1 z2 z3 : Value} {t : TypeId} (h : Bx W b #[z0, z1, z2, z3] t) :
    W.frozen? ⟨b, 0, none⟩ = false ∧ W.frozen? ⟨b, 1, none⟩ = false ∧ W.frozen? ⟨b, 2, none⟩ = false ∧ W.frozen? ⟨b, 3, none⟩ = false := ⟨h.no 0, h.no 1, h.no 2, h.no 3⟩
/-- digits lie in no such block: whatever is done to it -/
theorem Bx.rows {W W' : World} {b : Nat} {cs : Array Value} {t : TypeId} (h : Bx W b cs t) (hp : cs.all plainV = true) {v : Value} {ds : List Nat} (hr : Row W v ds) (hk : ∀ k, k ≠ b → W'.heap[k]? = W.heap[k]?) : Row W' v ds := by
  obtain ⟨h1, A, c, h2, h3, h6⟩ := hr
  refine ⟨h1, A, c, h2, fun hl => ?_, h6⟩
  obtain ⟨g, o, h4, h5⟩ := h3 hl
  refine ⟨g, o, h4, fun j hj => ?_⟩
  have hc := h5 j hj
  have hg : g ≠ b := by
    rintro rfl
    rw [h.cell] at hc
    have := Array.all_eq_true_iff_forall_mem.1 hp _ (Array.mem_of_getElem? hc)
    simp [plainV] at this
  rw [World.cell?_of_block (w := W) (w' := W') (a := ⟨g, o + j, none⟩) (hk g hg)]
  exact hc
theorem Bx.rowsI {W W' : World} {b : Nat} {s : Bool} {A : Option Addr} {n c : Nat} {t : TypeId} (h : Bx W b #[.bool s, .slice A n c] t) {v : Value} {ds : List Nat} (hr : Row W v ds) (hk : ∀ k, k ≠ b → W'.heap[k]? = W.heap[k]?) : Row W' v ds := h.rows (by simp [plainV]) hr hk
theorem Bx.rowsR {W W' : World} {b : Nat} {s s' : Bool} {A A' : Option Addr} {n c n' c' : Nat} {t : TypeId} (h : Bx W b #[.bool s, .slice A n c, .bool s', .slice A' n' c'] t) {v : Value} {ds : List Nat} (hr : Row W v ds) (hk : ∀ k, k ≠ b → W'.heap[k]? = W.heap[k]?) : Row W' v ds := h.rows (by simp [plainV]) hr hk
theorem Bx.stay {W W' : World} {b b' : Nat} {cs : Array Value} {t : TypeId} (h : Bx W b cs t) (hb : b ≠ b') (hk : ∀ k, k ≠ b' → W'.heap[k]? = W.heap[k]?) : Bx W' b cs t := (hk b hb).trans h
/-- a number's two cells, a fraction's four, stored -/
abbrev put2 (W : World) (b : Nat) (u0 u1 : Value) : World := (W.setCell ⟨b, 0, none⟩ u0).setCell ⟨b, 1, none⟩ u1
abbrev put4 (W : World) (b : Nat) (u0 u1 u2 u3 : Value) : World := (((W.setCell ⟨b, 0, none⟩ u0).setCell ⟨b, 1, none⟩ u1).setCell ⟨b, 2, none⟩ u2).setCell ⟨b, 3, none⟩ u3
theorem put2_far (W : World) (b : Nat) (u0 u1 : Value) (k : Nat) (h : k ≠ b) : (put2 W b u0 u1).heap[k]? = W.heap[k]? := by
  rw [Below.heap_setCell _ _ _ _ (by simpa using h), Below.heap_setCell _ _ _ _ (by simpa using h)]
theorem put4_far (W : World) (b : Nat) (u0 u1 u2 u3 : Value) (k : Nat) (h : k ≠ b) : (put4 W b u0 u1 u2 u3).heap[k]? = W.heap[k]? := by
  rw [Below.heap_setCell _ _ _ _ (by simpa using h), Below.heap_setCell _ _ _ _ (by simpa using h), Below.heap_setCell _ _ _ _ (by simpa using h), Below.heap_setCell _ _ _ _ (by simpa using h)]
theorem Bx.put2 {W : World} {b : Nat} {z0 z1 : Value} {t : TypeId} (h : Bx W b #[z0, z1] t) (u0 u1 : Value) : Bx (Go.Proofs.Ytfcinefmnigacaa.put2 W b u0 u1) b #[u0, u1] t := by
  have h1 := heap_setCell_same W b 0 _ t u0 h
  exact heap_setCell_same _ b 1 _ t u1 h1
theorem Bx.put4 {W : World} {b : Nat} {z0 z1 z2 z3 : Value} {t : TypeId} (h : Bx W b #[z0, z1, z2, z3] t) (u0 u1 u2 u3 : Value) : Bx (Go.Proofs.Ytfcinefmnigacaa.put4 W b u0 u1 u2 u3) b #[u0, u1, u2, u3] t := by
  have h1 := heap_setCell_same W b 0 _ t u0 h
  have h2 := heap_setCell_same _ b 1 _ t u1 h1
  have h3 := heap_setCell_same _ b 2 _ t u2 h2
  exact heap_setCell_same _ b 3 _ t u3 h3
theorem since_put2 {w W : World} {b : Nat} (h : Since w W) (hb : w.heap.size ≤ b) (u0 u1 : Value) : Since w (put2 W b u0 u1) := (h.set hb _).set hb _
theorem since_put4 {w W : World} {b : Nat} (h : Since w W) (hb : w.heap.size ≤ b) (u0 u1 u2 u3 : Value) : Since w (put4 W b u0 u1 u2 u3) := (((h.set hb _).set hb _).set hb _).set hb _
end Go.Proofs.Ytfcinefmnigacaa
