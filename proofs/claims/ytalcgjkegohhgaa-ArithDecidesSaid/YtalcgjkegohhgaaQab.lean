/- Tokens as cells: a slice of tokens that reads as a list. No code is spoken of. An append of tokens, none of th -/
import Derived.Laws.OwnMore
import Derived.Test.YtalcgjkegohhgaaQaa
import Derived.BigFrame
import Derived.Laws.AppendOwn
set_option linter.unusedVariables false
set_option linter.unusedSimpArgs false
section
namespace Go.Proofs.Ytalcgjkegohhgaa.Tk
open Go.RowKit
open Go.Proofs.Ytalcgjkegohhgaa.Dig Go.Proofs.Ytalcgjkegohhgaa.Lx
/-- a token, as it lies in memory -/
structure Tv where
  k : Int
  s : ByteArray
  v : Int
  a : Int
def Tv.nil : Tv := ⟨0, ⟨#[]⟩, 0, 0⟩
def cells4 (t : Tv) : List Value := [.int .i64 t.k, .string t.s, .int .i64 t.v, .int .i64 t.a]
def tcells : List Tv → List Value
  | [] => []
  | t :: r => cells4 t ++ tcells r
theorem tcells_len : ∀ ts : List Tv, (tcells ts).length = ts.length * 4
  | [] => rfl
  | t :: r => by simp only [tcells, List.length_append, tcells_len r, cells4, List.length_cons, List.length_nil]; omega
theorem tcells_get : ∀ (ts : List Tv) (i j : Nat), i < ts.length → j < 4 → (tcells ts)[i * 4 + j]? = (cells4 (ts.getD i .nil))[j]?
  | [], i, j, h, hj => by simp at h
  | t :: r, 0, j, h, hj => by
    simp only [tcells, Nat.zero_mul, Nat.zero_add]
    rw [List.getElem?_append_left (by simp [cells4]; omega)]
    simp
  | t :: r, i + 1, j, h, hj => by
    simp only [tcells]
    rw [List.getElem?_append_right (by simp [cells4]; omega)]
    have e : (i + 1) * 4 + j - (cells4 t).length = i * 4 + j := by simp [cells4]; omega
    rw [e, tcells_get r i j (by simpa using h) hj]
    simp [List.getD]
/-- the four cells of a token stand at a place -/
def Tok4 (w : World) (b o : Nat) (t : Tv) : Prop :=
  w.cell? ⟨b, o, none⟩ = some (.int .i64 t.k) ∧ w.cell? ⟨b, o + 1, none⟩ = some (.string t.s) ∧ w.cell? ⟨b, o + 2, none⟩ = some (.int .i64 t.v) ∧ w.cell? ⟨b, o + 3, none⟩ = some (.int .i64 t.a)
theorem Tok4.since {w w' : World} {b o : Nat} {t : Tv} (h : Tok4 w b o t) (k : Since w w') : Tok4 w' b o t := by
  obtain ⟨h1, h2, h3, h4⟩ := h
  have hb := World.block_lt_of_cell? _ _ h1
  exact ⟨(k.cell _ hb).trans h1, (k.cell ⟨b, o + 1, none⟩ hb).trans h2, (k.cell ⟨b, o + 2, none⟩ hb).trans h3, (k.cell ⟨b, o + 3, none⟩ hb).trans h4⟩
theorem Tok4.alloc {w : World} {b o : Nat} {t : Tv} (h : Tok4 w b o t) (x : Obj) : Tok4 (w.alloc x) b o t := h.since (since_alloc w x)
/-- the slice v reads as the tokens ts -/
def Toks (w : World) (v : Value) (ts : List Tv) : Prop :=
  ∃ A c, v = .slice A ts.length c ∧ ts.length ≤ c ∧ (0 < ts.length → ∃ b o, A = some ⟨b, o, none⟩ ∧ ∀ i, i < ts.length → Tok4 w b (o + i * 4) (ts.getD i .nil))
theorem Toks.since {w w' : World} {v : Value} {ts : List Tv} (h : Toks w v ts) (k : Since w w') : Toks w' v ts := by
  obtain ⟨A, c, h1, h2, h3⟩ := h
  refine ⟨A, c, h1, h2, fun hl => ?_⟩
  obtain ⟨b, o, h4, h5⟩ := h3 hl
  exact ⟨b, o, h4, fun i hi => (h5 i hi).since k⟩
theorem Toks.nil (w : World) : Toks w (.slice none 0 0) [] := ⟨none, 0, rfl, Nat.le_refl _, fun h => absurd h (Nat.lt_irrefl 0)⟩
/-- a row that the call owns reads as its tokens -/
theorem Toks.own {w : World} {base : Nat} {e : TypeId} {v : Value} {n : Nat} {ts : List Tv} (h : w.ownsRow base e 4 v n (tcells ts)) : Toks w v ts := by
  have hl : ts.length = n := by have := h.1; rw [tcells_len] at this; omega
  subst hl
  have hc := fun (g : Nat) => h.cells (g := g)
  rcases h.2 with ⟨h1, h2⟩ | ⟨g, cap, cur, h1, _, _, hcap, _⟩
  · exact ⟨none, 0, by rw [h1, h2], by omega, fun h => by omega⟩
  · refine ⟨some ⟨g, 0, none⟩, cap, h1, hcap, fun _ => ⟨g, 0, rfl, fun i hi => ?_⟩⟩
    have q := fun (j : Nat) (u : Value) (hj : j < 4) (hu : (cells4 (ts.getD i .nil))[j]? = some u) =>
      hc g (by rw [h1]; rfl) (i * 4 + j) u (by rw [tcells_get ts i j hi hj]; exact hu)
    simp only [add_block, Nat.zero_add] at q
    refine ⟨?_, ?_, ?_, ?_⟩
    · simpa using q 0 _ (by omega) rfl
    · simpa using q 1 _ (by omega) rfl
    · simpa using q 2 _ (by omega) rfl
    · simpa using q 3 _ (by omega) rfl
theorem Toks.at_ {w : World} {A : Option Addr} {n c : Nat} {ts : List Tv} (h : Toks w (.slice A n c) ts) : n = ts.length ∧ ts.length ≤ c := by
  obtain ⟨A', c', h1, h2, -⟩ := h
  injection h1 with _ e1 e2
  subst e1 e2
  exact ⟨rfl, h2⟩
theorem Toks.el {w : World} {A : Option Addr} {n c : Nat} {ts : List Tv} (h : Toks w (.slice A n c) ts) {i : Nat} (hi : i < ts.length) : ∃ b o, A = some ⟨b, o, none⟩ ∧ Tok4 w b (o + i * 4) (ts.getD i .nil) := by
  obtain ⟨A', c', h1, h2, h3⟩ := h
  obtain ⟨b, o, h4, h5⟩ := h3 (by omega)
  injection h1 with e0 e1 e2
  subst e0
  exact ⟨b, o, h4, h5 i hi⟩
theorem add_at (b o k : Nat) : (⟨b, o, none⟩ : Addr).add k = ⟨b, o + k, none⟩ := by
  unfold Addr.add; by_cases h : k = 0 <;> simp [h]
/-- a word of the document's, as it lies in memory -/
def tv (t : Tok) : Tv := ⟨(t.kind : Int), ⟨t.txt.toArray⟩, t.val, (t.at_ : Int)⟩
/-- a row of the call's own stays while the world grows -/
theorem owns_since {w w' : World} {base : Nat} {e : TypeId} {size : Nat} {v : Value} {n : Nat} {xs : List Value} (h : w.ownsRow base e size v n xs) (k : Since w w') : w'.ownsRow base e size v n xs := by
  refine ⟨h.1, ?_⟩
  rcases h.2 with h1 | ⟨g, cap, cur, h1, h2, h3, h4⟩
  · exact .inl h1
  · refine .inr ⟨g, cap, cur, h1, h2, ?_, h4⟩
    have hg : g < w.heap.size := by
      apply Decidable.byContradiction; intro hn
      rw [Array.getElem?_eq_none (by omega)] at h3; cases h3
    rw [k.block g hg]; exact h3
theorem owns_slice {w : World} {base : Nat} {e : TypeId} {size : Nat} {v : Value} {n : Nat} {xs : List Value} (h : w.ownsRow base e size v n xs) : ∃ A c, v = .slice A n c := by
  rcases h.2 with ⟨h1, h2⟩ | ⟨g, cap, cur, h1, _⟩
  · exact ⟨none, 0, by rw [h1, h2]⟩
  · exact ⟨_, _, h1⟩
/-- ends with tokens, a place and an error -/
def RetT (r : List Tok × Nat × Int) (w : World) (e : Ending) (w' : World) : Prop :=
  ∃ A c, e = .returned (.tuple #[.slice A r.1.length c, .int .i64 (r.2.1 : Int), .int .i64 r.2.2]) ∧ Toks w' (.slice A r.1.length c) (r.1.map tv) ∧ Since w w'
theorem RetT.no {p : Nat} {x : Int} {r : List Tok × Nat × Int} {w w' : World} (h : r = ([], p, x)) (k : Since w w') : RetT r w (.returned (.tuple #[.slice none 0 0, .int .i64 (p : Int), .int .i64 x])) w' := by
  subst h; exact ⟨none, 0, rfl, Toks.nil _, k⟩
theorem RetT.yes {acc : List Tok} {m c : Nat} {A : Option Addr} {r : List Tok × Nat × Int} {w w' : World} (h : r = (acc, 0, 0)) (hm : acc.length = m) (hq : Toks w' (.slice A m c) (acc.map tv)) (k : Since w w') :
    RetT r w (.returned (.tuple #[.slice A m c, .int .i64 0, .int .i64 0])) w' := by
  subst h hm; exact ⟨A, c, rfl, hq, k⟩
end Go.Proofs.Ytalcgjkegohhgaa.Tk
end
section
namespace Go.Proofs.Ytalcgjkegohhgaa.Tk
open Go.RowKit
theorem run_append_nil {P : Program} {w : World} {base : Nat} {t ty e : TypeId} {i : TypeInfo} {size : Nat} (ht : P.underlying t = some (.slice e)) (hi : P.info? e = some i)
    {v : Value} {n : Nat} {xs : List Value} (hown : w.ownsRow base e size v n xs) (c : Nat) : (Builtin.append_ #[t, t] ty #[v, .slice none 0 c]).run P w = .ok v w := by
  rcases hown.2 with ⟨rfl, rfl⟩ | ⟨g, cap, cur, rfl, _, _, hnc, _⟩
  · simp [Builtin.append_, run_underlying ht, sizeOf, typeInfo, hi, Builtin.lenOf, Builtin.firstCells]
  · simp [Builtin.append_, run_underlying ht, sizeOf, typeInfo, hi, Builtin.lenOf, Builtin.firstCells, hnc, storeCells]
/-- the cells of a slice's tokens -/
theorem Toks.cells {w : World} {b o m c : Nat} {ts : List Tv} (h : Toks w (.slice (some ⟨b, o, none⟩) m c) ts) : ∀ j u, (tcells ts)[j]? = some u → w.cell? ((⟨b, o, none⟩ : Addr).add j) = some u := by
  intro j u hj
  rw [add_at]
  have hl : j < (tcells ts).length := by
    apply Decidable.byContradiction; intro hn
    rw [List.getElem?_eq_none (by omega)] at hj; cases hj
  rw [tcells_len] at hl
  obtain ⟨b', o', e, h1, h2, h3, h4⟩ := h.el (i := j / 4) (by omega)
  injection e with e
  injection e with e1 e2
  subst e1 e2
  have ej : j = j / 4 * 4 + j % 4 := by omega
  have hg := tcells_get ts (j / 4) (j % 4) (by omega) (by omega)
  rw [← ej] at hg
  rw [hg] at hj
  have hr : j % 4 = 0 ∨ j % 4 = 1 ∨ j % 4 = 2 ∨ j % 4 = 3 := by omega
  rcases hr with hr | hr | hr | hr <;> rw [hr] at hj ej <;> injection hj with hj <;> subst hj
  · rw [show o + j = o + j / 4 * 4 by omega]; exact h1
  · rw [show o + j = o + j / 4 * 4 + 1 by omega]; exact h2
  · rw [show o + j = o + j / 4 * 4 + 2 by omega]; exact h3
  · rw [show o + j = o + j / 4 * 4 + 3 by omega]; exact h4
end Go.Proofs.Ytalcgjkegohhgaa.Tk
end
