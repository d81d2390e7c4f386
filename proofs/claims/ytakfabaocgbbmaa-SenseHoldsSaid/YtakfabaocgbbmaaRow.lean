/- A slice of 32-bit digits that reads as a list of numbers; what was there before a call is there behind it. -/
import Derived.Test.YtakfabaocgbbmaaRows
import Derived.Test.YtakfabaocgbbmaaDig
import Derived.WalkKit
import Derived.ProofKit
import Derived.OpenShut
import Derived.Lib.Hide
import Derived.WalkSmall
import Derived.Deep.QuietTactic
import Derived.BigQuiet
import Derived.Laws.Rows
import Derived.Deep.RegionHeld3
namespace Go.Proofs.Ytakfabaocgbbmaa
open Go.RowKit
open Go.Proofs.Ytakfabaocgbbmaa.Dig

/-- what was there before is as it was -/
def Since (w w' : World) : Prop := Below w.heap.size w w'
theorem Since.refl (w : World) : Since w w := Below.refl _ _
theorem Since.trans {a b c : World} (h : Since a b) (k : Since b c) : Since a c := Below.trans h (Below.mono k h.size)
theorem Since.alloc {a b : World} (h : Since a b) (o : Obj) : Since a (b.alloc o) := Below.alloc h h.size o
theorem Since.set {a b : World} (h : Since a b) {p : Addr} (hp : a.heap.size ≤ p.block) (u : Value) : Since a (b.setCell p u) := Below.setCell h hp u
theorem Since.drewN {a b : World} (h : Since a b) (n : Nat) : Since a (b.drewN n) := below_drewN h n
theorem Since.drew {a b : World} (h : Since a b) : Since a b.drew := Below.drew h

theorem ret_bool {a b : Bool} (h : a = b) : Ending.returned (.bool a) = .returned (.bool b) := by rw [h]
theorem ret_int {k : IntKind} {a b : Int} (h : a = b) : Ending.returned (.int k a) = .returned (.int k b) := by rw [h]

/-- digits as cells -/
def u32s (ds : List Nat) : List Value := ds.map fun (d : Nat) => Value.int .u32 (d : Int)
theorem u32s_append (xs ys : List Nat) : u32s (xs ++ ys) = u32s xs ++ u32s ys := by simp [u32s]
theorem u32s_one (d : Nat) : u32s [d] = [Value.int .u32 (d : Int)] := rfl
theorem u32s_len (xs : List Nat) : (u32s xs).length = xs.length := by simp [u32s]

/-- the slice v reads as the digits ds -/
def Row (w : World) (v : Value) (ds : List Nat) : Prop :=
  IsDig ds ∧ ∃ A c, v = .slice A ds.length c ∧ (0 < ds.length → ∃ b o, A = some ⟨b, o, none⟩ ∧ ∀ i, i < ds.length → w.cell? ⟨b, o + i, none⟩ = some (.int .u32 ((ds.getD i 0 : Nat) : Int))) ∧ ds.length ≤ c

theorem Row.dig {w : World} {v : Value} {ds : List Nat} (h : Row w v ds) : IsDig ds := h.1
theorem Row.since {w w' : World} {v : Value} {ds : List Nat} (h : Row w v ds) (k : Since w w') : Row w' v ds := by
  obtain ⟨h1, A, c, h2, h3, h6⟩ := h
  refine ⟨h1, A, c, h2, fun hl => ?_, h6⟩
  obtain ⟨b, o, h4, h5⟩ := h3 hl
  exact ⟨b, o, h4, fun i hi => (Below.cell k (World.block_lt_of_cell? _ _ (h5 i hi))).trans (h5 i hi)⟩
theorem Row.nil (w : World) : Row w (.slice none 0 0) [] := ⟨isDig_nil, none, 0, rfl, fun h => by simp at h, Nat.le_refl _⟩

theorem add_block (b o i : Nat) : (⟨b, o, none⟩ : Addr).add i = ⟨b, o + i, none⟩ := by
  unfold Addr.add; by_cases h : i = 0 <;> simp [h]

/-- a row that the call owns reads as its digits -/
theorem Row.own {w : World} {base : Nat} {e : TypeId} {v : Value} {n : Nat} {ds : List Nat} (hd : IsDig ds) (h : w.ownsRow base e 1 v n (u32s ds)) : Row w v ds := by
  have hl : ds.length = n := by have := h.1; simpa [u32s] using this
  subst hl
  refine ⟨hd, ?_⟩
  have hc := fun (g : Nat) => h.cells (g := g)
  rcases h.2 with ⟨h1, h2⟩ | ⟨g, cap, cur, h1, _, _, hcap, _⟩
  · exact ⟨none, 0, by rw [h1, h2], fun h => by omega, by omega⟩
  · refine ⟨some ⟨g, 0, none⟩, cap, h1, fun _ => ⟨g, 0, rfl, fun i hi => ?_⟩, hcap⟩
    have := hc g (by rw [h1]; rfl) i (.int .u32 ((ds.getD i 0 : Nat) : Int)) (by simp [u32s, hi, List.getD])
    rw [add_block] at this
    simpa using this

/-- ends with a slice that reads as the digits, and leaves what was there -/
def RetRow (ds : List Nat) (w : World) (e : Ending) (w' : World) : Prop := ∃ v, e = .returned v ∧ Row w' v ds ∧ Since w w'
/-- .. with a slice and a number -/
def RetRowErr (ds : List Nat) (x : Int) (w : World) (e : Ending) (w' : World) : Prop := ∃ v, e = .returned (.tuple #[v, .int .i64 x]) ∧ Row w' v ds ∧ Since w w'
section
open Go.RowKit
set_option linter.unusedVariables false
open Go.Proofs.Ytakfabaocgbbmaa.Dig

/-- a slice of 32-bit numbers that came in reads as digits -/
theorem row_in {w : World} {a : Option Addr} {len cap : Nat} {zs : List Int}
    (h : (a = none ∧ len = 0 ∧ cap = 0 ∧ zs = []) ∨ ∃ x, a = some x ∧ len ≤ cap ∧ cap ≤ maxLen ∧ zs.length = cap ∧ (∀ i, i < zs.length → w.cell? (x.add i) = some (.int .u32 (zs.getD i 0))) ∧ ∀ n ∈ zs, (Lit.int .u32 n).wf = true) :
    ∃ ds : List Nat, ds.length = len ∧ Row w (.slice a len cap) ds := by
  rcases h with ⟨rfl, rfl, rfl, _⟩ | ⟨x, rfl, hl, _, hz, hc, hw⟩
  · exact ⟨[], rfl, Row.nil _⟩
  · refine ⟨(zs.take len).map Int.toNat, by simp; omega, ?_, ?_⟩
    · intro d hd
      obtain ⟨n, hn, rfl⟩ := List.mem_map.mp hd
      have := bounds_u32 (hw n (List.mem_of_mem_take hn))
      omega
    · have hlen : ((zs.take len).map Int.toNat).length = len := by simp; omega
      refine ⟨some x, cap, by rw [hlen], fun h0 => ?_, by rw [hlen]; exact hl⟩
      obtain ⟨b, o, rfl, hd⟩ := ints_at hc (by omega)
      refine ⟨b, o, rfl, fun i hi => ?_⟩
      rw [hlen] at hi
      have hi2 : i < zs.length := by omega
      rw [hd i hi2]
      have e1 : zs.getD i 0 = zs[i] := by simp [List.getD, hi2]
      have hb := bounds_u32 (hw zs[i] (List.getElem_mem hi2))
      have e2 : ((zs.take len).map Int.toNat).getD i 0 = zs[i].toNat := by
        simp [List.getD, hi, hi2]
      rw [e1, e2]
      congr 2
      omega

theorem row_new (W : World) (e : TypeId) (c : Array Value) (ds : List Nat) (hd : IsDig ds) (hl : c.size = ds.length) (hc : ∀ i, i < ds.length → c[i]? = some (.int .u32 ((ds.getD i 0 : Nat) : Int))) :
    Row (W.alloc (.cells c e)) (.slice (some ⟨W.heap.size, 0, none⟩) ds.length ds.length) ds := by
  refine ⟨hd, _, _, rfl, fun _ => ⟨W.heap.size, 0, rfl, fun i hi => ?_⟩, Nat.le_refl _⟩
  rw [Nat.zero_add, ← hc i hi]
  simp
theorem row_one (W : World) (e : TypeId) (d : Nat) (hd : d < 4294967296) : Row (W.alloc (.cells #[.int .u32 (d : Int)] e)) (.slice (some ⟨W.heap.size, 0, none⟩) 1 1) [d] :=
  row_new W e #[.int .u32 (d : Int)] [d] (isDig_one hd) rfl (fun i hi => by
    have : i = 0 := by simpa using hi
    subst this; rfl)
theorem row_two (W : World) (e : TypeId) (c d : Nat) (hc : c < 4294967296) (hd : d < 4294967296) : Row (W.alloc (.cells #[.int .u32 (c : Int), .int .u32 (d : Int)] e)) (.slice (some ⟨W.heap.size, 0, none⟩) 2 2) [c, d] :=
  row_new W e #[.int .u32 (c : Int), .int .u32 (d : Int)] [c, d] (fun x hx => by simp at hx; omega) rfl (fun i hi => by
    have : i < 2 := by simpa using hi
    rcases (show i = 0 ∨ i = 1 by omega) with rfl | rfl <;> rfl)
theorem since_alloc (W : World) (o : Obj) : Since W (W.alloc o) := (Since.refl W).alloc o

theorem pair_new (W : World) (e : TypeId) (c d : Nat) (hc : c < 4294967296) (hd : d < 4294967296) :
    Row ((W.alloc (.cells #[.int .u32 (c : Int)] e)).alloc (.cells #[.int .u32 (d : Int)] e)) (.slice (some ⟨W.heap.size, 0, none⟩) 1 1) [c] ∧
    Row ((W.alloc (.cells #[.int .u32 (c : Int)] e)).alloc (.cells #[.int .u32 (d : Int)] e)) (.slice (some ⟨W.heap.size + 1, 0, none⟩) 1 1) [d] := by
  refine ⟨(row_one W e c hc).since (since_alloc _ _), ?_⟩
  have h := row_one (W.alloc (.cells #[.int .u32 (c : Int)] e)) e d hd
  have e1 : (W.alloc (.cells #[.int .u32 (c : Int)] e)).heap.size = W.heap.size + 1 := by simp
  rw [e1] at h
  exact h

end
section
open Go.RowKit
set_option linter.unusedVariables false
open Go.Proofs.Ytakfabaocgbbmaa.Dig

/-- ends with a slice that is seen as one -/
def RetSl (ds : List Nat) (w : World) (e : Ending) (w' : World) : Prop := ∃ A c, e = .returned (.slice A ds.length c) ∧ Row w' (.slice A ds.length c) ds ∧ Since w w'
theorem RetRow.sl {ds : List Nat} {w : World} {e : Ending} {w' : World} (h : RetRow ds w e w') : RetSl ds w e w' := by
  obtain ⟨v, rfl, hr, hs⟩ := h
  obtain ⟨h1, A, c, rfl, h3, h6⟩ := hr
  exact ⟨A, c, rfl, ⟨h1, A, c, rfl, h3, h6⟩, hs⟩
theorem Since.cell {a b : World} (h : Since a b) (p : Addr) (hp : p.block < a.heap.size) : b.cell? p = a.cell? p := Below.cell h hp
theorem block_new {w W : World} {o : Obj} (h : Since (w.alloc o) W) : W.heap[w.heap.size]? = some o := by
  rw [h.block w.heap.size (by simp), heap_alloc_new]
theorem keep2 {w W : World} {z0 z1 : Value} {t : TypeId} (h : Since (w.alloc (.cells #[z0, z1] t)) W) :
    W.cell? ⟨w.heap.size, 0, none⟩ = some z0 ∧ W.cell? ⟨w.heap.size, 1, none⟩ = some z1 ∧ W.frozen? ⟨w.heap.size, 0, none⟩ = false ∧ W.frozen? ⟨w.heap.size, 1, none⟩ = false := by
  refine ⟨?_, ?_, ?_, ?_⟩
  · rw [Below.cell h (by simp)]; simp
  · rw [Below.cell h (by simp)]; simp
  · rw [Below.frozen h (by simp)]; simp
  · rw [Below.frozen h (by simp)]; simp
/-- digits lie in no block of a truth value and a slice -/
theorem row_far {W W' : World} {b : Nat} {x : Bool} {A : Option Addr} {n c : Nat} {t : TypeId} {fz : Nat × Nat} {v : Value} {ds : List Nat} (h : Row W v ds)
    (hb : W.heap[b]? = some (.cells #[.bool x, .slice A n c] t fz)) (hk : ∀ k, k ≠ b → W'.heap[k]? = W.heap[k]?) : Row W' v ds := by
  obtain ⟨h1, A', c', h2, h3, h6⟩ := h
  refine ⟨h1, A', c', h2, fun hl => ?_, h6⟩
  obtain ⟨g, o, h4, h5⟩ := h3 hl
  refine ⟨g, o, h4, fun i hi => ?_⟩
  have hc := h5 i hi
  have hg : g ≠ b := by
    rintro rfl
    have e : W.cell? ⟨g, o + i, none⟩ = (#[Value.bool x, .slice A n c] : Array Value)[o + i]? := cell_of_row W g (o + i) _ t fz hb
    rw [e] at hc
    match o + i, hc with
    | 0, hc => simp at hc
    | 1, hc => simp at hc
    | k + 2, hc => simp at hc
  rw [World.cell?_of_block (w := W) (w' := W') (a := ⟨g, o + i, none⟩) (hk g hg)]
  exact hc
theorem row_set2 {w W : World} {x : Bool} {A : Option Addr} {n c : Nat} {t : TypeId} {v : Value} {ds : List Nat} (h : Row W v ds)
    (hb : Since (w.alloc (.cells #[.bool x, .slice A n c] t)) W) (u0 u1 : Value) : Row ((W.setCell ⟨w.heap.size, 0, none⟩ u0).setCell ⟨w.heap.size, 1, none⟩ u1) v ds :=
  row_far h (block_new hb) fun k hk => by
    rw [Below.heap_setCell _ _ _ _ (by simpa using hk), Below.heap_setCell _ _ _ _ (by simpa using hk)]
theorem since_set2 {w W : World} {o : Obj} (hb : Since (w.alloc o) W) (u0 u1 : Value) : Since w ((W.setCell ⟨w.heap.size, 0, none⟩ u0).setCell ⟨w.heap.size, 1, none⟩ u1) :=
  (((since_alloc w o).trans hb).set (Nat.le_refl _) _).set (Nat.le_refl _) _
end
section
open Go.RowKit
set_option linter.unusedVariables false
open Go.Proofs.Ytakfabaocgbbmaa.Dig

/-- block b holds these cells, and may be written -/
def Bx (W : World) (b : Nat) (cs : Array Value) (t : TypeId) : Prop := W.heap[b]? = some (.cells cs t)
theorem Bx.lt {W : World} {b : Nat} {cs : Array Value} {t : TypeId} (h : Bx W b cs t) : b < W.heap.size := by
  unfold Bx at h
  apply Decidable.byContradiction; intro hn
  rw [Array.getElem?_eq_none (by omega)] at h; cases h
theorem Bx.since {W W' : World} {b : Nat} {cs : Array Value} {t : TypeId} (h : Bx W b cs t) (k : Since W W') : Bx W' b cs t := by
  have hl := h.lt
  unfold Bx at *
  rw [k.block b hl]; exact h
theorem Bx.fresh (W : World) (cs : Array Value) (t : TypeId) : Bx (W.alloc (.cells cs t)) W.heap.size cs t := block_new (Since.refl _)
theorem Bx.new {W W' : World} {cs : Array Value} {t : TypeId} {n : Nat} (k : Since (W.alloc (.cells cs t)) W') (e : W.heap.size = n) : Bx W' n cs t := e ▸ (Bx.fresh W cs t).since k
theorem Bx.cell {W : World} {b : Nat} {cs : Array Value} {t : TypeId} (h : Bx W b cs t) (i : Nat) : W.cell? ⟨b, i, none⟩ = cs[i]? := cell_of_row W b i cs t (0, 0) h
theorem Bx.no {W : World} {b : Nat} {cs : Array Value} {t : TypeId} (h : Bx W b cs t) (i : Nat) : W.frozen? ⟨b, i, none⟩ = false := by
  unfold Bx at h
  simp [World.frozen?, h]
/-- no cell of the block is a digit -/
abbrev plainV : Value → Bool
  | .int .u32 _ => false
  | _ => true
theorem Bx.row {W : World} {b : Nat} {cs : Array Value} {t : TypeId} (h : Bx W b cs t) (hp : cs.all plainV = true) {v : Value} {ds : List Nat} (hr : Row W v ds) (i : Nat) (u : Value) : Row (W.setCell ⟨b, i, none⟩ u) v ds := by
  obtain ⟨h1, A, c, h2, h3, h6⟩ := hr
  refine ⟨h1, A, c, h2, fun hl => ?_, h6⟩
  obtain ⟨g, o, h4, h5⟩ := h3 hl
  refine ⟨g, o, h4, fun j hj => ?_⟩
  have hc := h5 j hj
  have hg : g ≠ b := by
    rintro rfl
    rw [h.cell] at hc
    have := Array.all_eq_true_iff_forall_mem.1 hp _ (Array.mem_of_getElem? hc)
    simp [plainV] at this
  rw [World.cell?_of_block (w := W) (a := ⟨g, o + j, none⟩) (Below.heap_setCell _ _ _ _ (by simpa using hg))]
  exact hc
theorem Bx.other {W : World} {b b' : Nat} {cs : Array Value} {t : TypeId} (h : Bx W b cs t) (hb : b ≠ b') (i : Nat) (u : Value) : Bx (W.setCell ⟨b', i, none⟩ u) b cs t := by
  unfold Bx at *
  rw [Below.heap_setCell _ _ _ _ (by simpa using hb)]; exact h
theorem Bx.two {W : World} {b : Nat} {z0 z1 : Value} {t : TypeId} (h : Bx W b #[z0, z1] t) : W.cell? ⟨b, 0, none⟩ = some z0 ∧ W.cell? ⟨b, 1, none⟩ = some z1 := ⟨h.cell 0, h.cell 1⟩
theorem Bx.four {W : World} {b : Nat} {z0 z1 z2 z3 : Value} {t : TypeId} (h : Bx W b #[z0, z1, z2, z3] t) :
    W.cell? ⟨b, 0, none⟩ = some z0 ∧ W.cell? ⟨b, 1, none⟩ = some z1 ∧ W.cell? ⟨b, 2, none⟩ = some z2 ∧ W.cell? ⟨b, 3, none⟩ = some z3 := ⟨h.cell 0, h.cell 1, h.cell 2, h.cell 3⟩
theorem Bx.two' {W : World} {b : Nat} {z0 z1 : Value} {t : TypeId} (h : Bx W b #[z0, z1] t) : W.frozen? ⟨b, 0, none⟩ = false ∧ W.frozen? ⟨b, 1, none⟩ = false := ⟨h.no 0, h.no 1⟩
theorem Bx.four' {W : World} {b : Nat} {z0 z1 z2 z3 : Value} {t : TypeId} (h : Bx W b #[z0, z1, z2, z3] t) :
    W.frozen? ⟨b, 0, none⟩ = false ∧ W.frozen? ⟨b, 1, none⟩ = false ∧ W.frozen? ⟨b, 2, none⟩ = false ∧ W.frozen? ⟨b, 3, none⟩ = false := ⟨h.no 0, h.no 1, h.no 2, h.no 3⟩
/-- digits lie in no such block: whatever is done to it -/
theorem Bx.rows {W W' : World} {b : Nat} {cs : Array Value} {t : TypeId} (h : Bx W b cs t) (hp : cs.all plainV = true) {v : Value} {ds : List Nat} (hr : Row W v ds) (hk : ∀ k, k ≠ b → W'.heap[k]? = W.heap[k]?) : Row W' v ds := by
  obtain ⟨h1, A, c, h2, h3, h6⟩ := hr
  refine ⟨h1, A, c, h2, fun hl => ?_, h6⟩
  obtain ⟨g, o, h4, h5⟩ := h3 hl
  refine ⟨g, o, h4, fun j hj => ?_⟩
  have hc := h5 j hj
  have hg : g ≠ b := by
    rintro rfl
    rw [h.cell] at hc
    have := Array.all_eq_true_iff_forall_mem.1 hp _ (Array.mem_of_getElem? hc)
    simp [plainV] at this
  rw [World.cell?_of_block (w := W) (w' := W') (a := ⟨g, o + j, none⟩) (hk g hg)]
  exact hc
theorem Bx.rowsI {W W' : World} {b : Nat} {s : Bool} {A : Option Addr} {n c : Nat} {t : TypeId} (h : Bx W b #[.bool s, .slice A n c] t) {v : Value} {ds : List Nat} (hr : Row W v ds) (hk : ∀ k, k ≠ b → W'.heap[k]? = W.heap[k]?) : Row W' v ds := h.rows (by simp [plainV]) hr hk
theorem Bx.rowsR {W W' : World} {b : Nat} {s s' : Bool} {A A' : Option Addr} {n c n' c' : Nat} {t : TypeId} (h : Bx W b #[.bool s, .slice A n c, .bool s', .slice A' n' c'] t) {v : Value} {ds : List Nat} (hr : Row W v ds) (hk : ∀ k, k ≠ b → W'.heap[k]? = W.heap[k]?) : Row W' v ds := h.rows (by simp [plainV]) hr hk
theorem Bx.stay {W W' : World} {b b' : Nat} {cs : Array Value} {t : TypeId} (h : Bx W b cs t) (hb : b ≠ b') (hk : ∀ k, k ≠ b' → W'.heap[k]? = W.heap[k]?) : Bx W' b cs t := (hk b hb).trans h
/-- a number's two cells, a fraction's four, stored -/
abbrev put2 (W : World) (b : Nat) (u0 u1 : Value) : World := (W.setCell ⟨b, 0, none⟩ u0).setCell ⟨b, 1, none⟩ u1
abbrev put4 (W : World) (b : Nat) (u0 u1 u2 u3 : Value) : World := (((W.setCell ⟨b, 0, none⟩ u0).setCell ⟨b, 1, none⟩ u1).setCell ⟨b, 2, none⟩ u2).setCell ⟨b, 3, none⟩ u3
theorem put2_far (W : World) (b : Nat) (u0 u1 : Value) (k : Nat) (h : k ≠ b) : (put2 W b u0 u1).heap[k]? = W.heap[k]? := by
  rw [Below.heap_setCell _ _ _ _ (by simpa using h), Below.heap_setCell _ _ _ _ (by simpa using h)]
theorem put4_far (W : World) (b : Nat) (u0 u1 u2 u3 : Value) (k : Nat) (h : k ≠ b) : (put4 W b u0 u1 u2 u3).heap[k]? = W.heap[k]? := by
  rw [Below.heap_setCell _ _ _ _ (by simpa using h), Below.heap_setCell _ _ _ _ (by simpa using h), Below.heap_setCell _ _ _ _ (by simpa using h), Below.heap_setCell _ _ _ _ (by simpa using h)]
theorem Bx.put2 {W : World} {b : Nat} {z0 z1 : Value} {t : TypeId} (h : Bx W b #[z0, z1] t) (u0 u1 : Value) : Bx (Go.Proofs.Ytakfabaocgbbmaa.put2 W b u0 u1) b #[u0, u1] t := by
  have h1 := heap_setCell_same W b 0 _ t u0 h
  exact heap_setCell_same _ b 1 _ t u1 h1
theorem Bx.put4 {W : World} {b : Nat} {z0 z1 z2 z3 : Value} {t : TypeId} (h : Bx W b #[z0, z1, z2, z3] t) (u0 u1 u2 u3 : Value) : Bx (Go.Proofs.Ytakfabaocgbbmaa.put4 W b u0 u1 u2 u3) b #[u0, u1, u2, u3] t := by
  have h1 := heap_setCell_same W b 0 _ t u0 h
  have h2 := heap_setCell_same _ b 1 _ t u1 h1
  have h3 := heap_setCell_same _ b 2 _ t u2 h2
  exact heap_setCell_same _ b 3 _ t u3 h3
theorem since_put2 {w W : World} {b : Nat} (h : Since w W) (hb : w.heap.size ≤ b) (u0 u1 : Value) : Since w (put2 W b u0 u1) := (h.set hb _).set hb _
theorem since_put4 {w W : World} {b : Nat} (h : Since w W) (hb : w.heap.size ≤ b) (u0 u1 u2 u3 : Value) : Since w (put4 W b u0 u1 u2 u3) := (((h.set hb _).set hb _).set hb _).set hb _
end
end Go.Proofs.Ytakfabaocgbbmaa
