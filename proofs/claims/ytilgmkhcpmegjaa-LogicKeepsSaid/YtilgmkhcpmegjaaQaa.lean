/- Plain facts on digits to the base 2^32: the number of a list of digits, the digits of a number. No Go in sight -/
import Derived.WalkKit
import Derived.OpenShut
import Derived.BigQuiet
import Derived.Deep.QuietTactic
import Derived.Deep.RegionHeld3
import Derived.Laws.Rows
import Derived.Lib.Hide
import Derived.ProofKit
import Derived.WalkSmall
import Derived.Test.YtilgmkhcpmegjaaRows
import Derived.Laws.OwnMore
import Derived.BigFrame
import Derived.Laws.AppendOwn
set_option linter.unusedVariables false
set_option linter.unusedSimpArgs false
section
namespace Go.Proofs.Ytilgmkhcpmegjaa.Dig
def IsDig (ds : List Nat) : Prop := ∀ d ∈ ds, d < 4294967296
theorem isDig_nil : IsDig [] := by intro d hd; simp at hd
end Go.Proofs.Ytilgmkhcpmegjaa.Dig
end
section
namespace Go.Proofs.Ytilgmkhcpmegjaa.Num
open Go.RowKit
/-- the number is one of 64 bits -/
def fits (n : Int) : Bool := decide (-9223372036854775808 ≤ n ∧ n ≤ 9223372036854775807)
/-- the value where it fits, else nothing -/
def val (n : Int) : Int := if fits n = true then n else 0
/-- two numbers as one result -/
abbrev two (v e : Int) : Ending := .returned (.tuple #[.int .i64 v, .int .i64 e])
end Go.Proofs.Ytilgmkhcpmegjaa.Num
end
section
namespace Go.Proofs.Ytilgmkhcpmegjaa.Dig
/-- the decimal digits of a number behind its leading noughts: none of 0 -/
def decsF : Nat → Nat → List UInt8
  | 0, _ => []
  | f + 1, n => if n = 0 then [] else decsF f (n / 10) ++ [UInt8.ofNat (48 + n % 10)]
def decs (n : Nat) : List UInt8 := decsF n n
/-- a number in decimal digits -/
def text (n : Nat) : List UInt8 := if n = 0 then [48] else decs n
end Go.Proofs.Ytilgmkhcpmegjaa.Dig
end
section
namespace Go.Proofs.Ytilgmkhcpmegjaa.Lx
open Go.Proofs.Ytilgmkhcpmegjaa.Dig
abbrev Bs := List UInt8
def letterB (c : UInt8) : Bool := decide (97 ≤ c.toNat ∧ c.toNat ≤ 122) || decide (65 ≤ c.toNat ∧ c.toNat ≤ 90) || decide (c.toNat = 95)
def digB (c : UInt8) : Bool := decide (48 ≤ c.toNat ∧ c.toNat ≤ 57)
def whiteB (c : UInt8) : Bool := decide (c.toNat = 32 ∨ c.toNat = 9 ∨ c.toNat = 10 ∨ c.toNat = 13)
def signB (c : UInt8) : Bool := decide (c.toNat = 58 ∨ c.toNat = 123 ∨ c.toNat = 125 ∨ c.toNat = 91 ∨ c.toNat = 93 ∨ c.toNat = 40 ∨ c.toNat = 41 ∨ c.toNat = 44 ∨ c.toNat = 59 ∨ c.toNat = 61)
def wordB (c : UInt8) : Bool := letterB c || digB c
/-- how many blank bytes stand in front; true: within a comment -/
def blk : Bool → Bs → Nat
  | _, [] => 0
  | true, c :: t => if c.toNat = 10 then 1 + blk false t else 1 + blk true t
  | false, c :: t => if c.toNat = 37 then 1 + blk true t else if whiteB c = true then 1 + blk false t else 0
/-- how many bytes of a sort stand in front -/
def run (p : UInt8 → Bool) : Bs → Nat
  | [] => 0
  | c :: t => if p c = true then 1 + run p t else 0
/-- the kind and the length of the token in front -/
def word : Bs → Nat × Nat
  | [] => (0, 0)
  | c :: t =>
    if letterB c = true then (1, 1 + run wordB t)
    else if digB c = true then (2, 1 + run digB t)
    else if c.toNat = 45 ∧ 0 < run digB t then (2, 1 + run digB t)
    else if (c.toNat = 58 ∨ c.toNat = 46) ∧ t.head? = some c then (3, 2)
    else if signB c = true then (3, 1)
    else (0, 0)
def fits (v : Int) : Prop := -9223372036854775808 ≤ v ∧ v < 9223372036854775808
instance (v : Int) : Decidable (fits v) := by unfold fits; infer_instance
structure Tok where
  kind : Nat
  txt : Bs
  val : Int
  at_ : Nat
/-- how far the next token stands -/
def next (l : Bs) : Nat := (word l).2 + blk false (l.drop (word l).2)
section
open Go.Proofs.Ytilgmkhcpmegjaa.Dig
end
section
open Go.Proofs.Ytilgmkhcpmegjaa.Dig
/-- the bytes of a text -/
def L (s : ByteArray) : Bs := s.data.toList
end
end Go.Proofs.Ytilgmkhcpmegjaa.Lx
end
section
namespace Go.Proofs.Ytilgmkhcpmegjaa
open Go.RowKit
open Go.Proofs.Ytilgmkhcpmegjaa.Dig
/-- what was there before is as it was -/
def Since (w w' : World) : Prop := Below w.heap.size w w'
theorem Since.refl (w : World) : Since w w := Below.refl _ _
theorem Since.trans {a b c : World} (h : Since a b) (k : Since b c) : Since a c := Below.trans h (Below.mono k h.size)
theorem Since.alloc {a b : World} (h : Since a b) (o : Obj) : Since a (b.alloc o) := Below.alloc h h.size o
theorem Since.set {a b : World} (h : Since a b) {p : Addr} (hp : a.heap.size ≤ p.block) (u : Value) : Since a (b.setCell p u) := Below.setCell h hp u
theorem Since.drew {a b : World} (h : Since a b) : Since a b.drew := Below.drew h
/-- digits as cells -/
def u32s (ds : List Nat) : List Value := ds.map fun (d : Nat) => Value.int .u32 (d : Int)
/-- the slice v reads as the digits ds -/
def Row (w : World) (v : Value) (ds : List Nat) : Prop :=
  IsDig ds ∧ ∃ A c, v = .slice A ds.length c ∧ (0 < ds.length → ∃ b o, A = some ⟨b, o, none⟩ ∧ ∀ i, i < ds.length → w.cell? ⟨b, o + i, none⟩ = some (.int .u32 ((ds.getD i 0 : Nat) : Int))) ∧ ds.length ≤ c
theorem Row.since {w w' : World} {v : Value} {ds : List Nat} (h : Row w v ds) (k : Since w w') : Row w' v ds := by
  obtain ⟨h1, A, c, h2, h3, h6⟩ := h
  refine ⟨h1, A, c, h2, fun hl => ?_, h6⟩
  obtain ⟨b, o, h4, h5⟩ := h3 hl
  exact ⟨b, o, h4, fun i hi => (Below.cell k (World.block_lt_of_cell? _ _ (h5 i hi))).trans (h5 i hi)⟩
theorem Row.nil (w : World) : Row w (.slice none 0 0) [] := ⟨isDig_nil, none, 0, rfl, fun h => by simp at h, Nat.le_refl _⟩
theorem add_block (b o i : Nat) : (⟨b, o, none⟩ : Addr).add i = ⟨b, o + i, none⟩ := by
  unfold Addr.add; by_cases h : i = 0 <;> simp [h]
/-- a row that the call owns reads as its digits -/
theorem Row.own {w : World} {base : Nat} {e : TypeId} {v : Value} {n : Nat} {ds : List Nat} (hd : IsDig ds) (h : w.ownsRow base e 1 v n (u32s ds)) : Row w v ds := by
  have hl : ds.length = n := by have := h.1; simpa [u32s] using this
  subst hl
  refine ⟨hd, ?_⟩
  have hc := fun (g : Nat) => h.cells (g := g)
  rcases h.2 with ⟨h1, h2⟩ | ⟨g, cap, cur, h1, _, _, hcap, _⟩
  · exact ⟨none, 0, by rw [h1, h2], fun h => by omega, by omega⟩
  · refine ⟨some ⟨g, 0, none⟩, cap, h1, fun _ => ⟨g, 0, rfl, fun i hi => ?_⟩, hcap⟩
    have := hc g (by rw [h1]; rfl) i (.int .u32 ((ds.getD i 0 : Nat) : Int)) (by simp [u32s, hi, List.getD])
    rw [add_block] at this
    simpa using this
/-- ends with a slice that reads as the digits, and leaves what was there -/
def RetRow (ds : List Nat) (w : World) (e : Ending) (w' : World) : Prop := ∃ v, e = .returned v ∧ Row w' v ds ∧ Since w w'
section
open Go.RowKit
open Go.Proofs.Ytilgmkhcpmegjaa.Dig
theorem since_alloc (W : World) (o : Obj) : Since W (W.alloc o) := (Since.refl W).alloc o
end
section
open Go.RowKit
open Go.Proofs.Ytilgmkhcpmegjaa.Dig
/-- ends with a slice that is seen as one -/
def RetSl (ds : List Nat) (w : World) (e : Ending) (w' : World) : Prop := ∃ A c, e = .returned (.slice A ds.length c) ∧ Row w' (.slice A ds.length c) ds ∧ Since w w'
theorem RetRow.sl {ds : List Nat} {w : World} {e : Ending} {w' : World} (h : RetRow ds w e w') : RetSl ds w e w' := by
  obtain ⟨v, rfl, hr, hs⟩ := h
  obtain ⟨h1, A, c, rfl, h3, h6⟩ := hr
  exact ⟨A, c, rfl, ⟨h1, A, c, rfl, h3, h6⟩, hs⟩
theorem Since.cell {a b : World} (h : Since a b) (p : Addr) (hp : p.block < a.heap.size) : b.cell? p = a.cell? p := Below.cell h hp
theorem block_new {w W : World} {o : Obj} (h : Since (w.alloc o) W) : W.heap[w.heap.size]? = some o := by
  rw [h.block w.heap.size (by simp), heap_alloc_new]
end
section
open Go.RowKit
open Go.Proofs.Ytilgmkhcpmegjaa.Dig
/-- block b holds these cells, and may be written -/
def Bx (W : World) (b : Nat) (cs : Array Value) (t : TypeId) : Prop := W.heap[b]? = some (.cells cs t)
theorem Bx.lt {W : World} {b : Nat} {cs : Array Value} {t : TypeId} (h : Bx W b cs t) : b < W.heap.size := by
  unfold Bx at h
  apply Decidable.byContradiction; intro hn
  rw [Array.getElem?_eq_none (by omega)] at h; cases h
theorem Bx.since {W W' : World} {b : Nat} {cs : Array Value} {t : TypeId} (h : Bx W b cs t) (k : Since W W') : Bx W' b cs t := by
  have hl := h.lt
  unfold Bx at *
  rw [k.block b hl]; exact h
theorem Bx.fresh (W : World) (cs : Array Value) (t : TypeId) : Bx (W.alloc (.cells cs t)) W.heap.size cs t := block_new (Since.refl _)
theorem Bx.new {W W' : World} {cs : Array Value} {t : TypeId} {n : Nat} (k : Since (W.alloc (.cells cs t)) W') (e : W.heap.size = n) : Bx W' n cs t := e ▸ (Bx.fresh W cs t).since k
theorem Bx.cell {W : World} {b : Nat} {cs : Array Value} {t : TypeId} (h : Bx W b cs t) (i : Nat) : W.cell? ⟨b, i, none⟩ = cs[i]? := cell_of_row W b i cs t (0, 0) h
theorem Bx.no {W : World} {b : Nat} {cs : Array Value} {t : TypeId} (h : Bx W b cs t) (i : Nat) : W.frozen? ⟨b, i, none⟩ = false := by
  unfold Bx at h
  simp [World.frozen?, h]
/-- no cell of the block is a digit -/
abbrev plainV : Value → Bool
  | .int .u32 _ => false
  | _ => true
theorem Bx.row {W : World} {b : Nat} {cs : Array Value} {t : TypeId} (h : Bx W b cs t) (hp : cs.all plainV = true) {v : Value} {ds : List Nat} (hr : Row W v ds) (i : Nat) (u : Value) : Row (W.setCell ⟨b, i, none⟩ u) v ds := by
  obtain ⟨h1, A, c, h2, h3, h6⟩ := hr
  refine ⟨h1, A, c, h2, fun hl => ?_, h6⟩
  obtain ⟨g, o, h4, h5⟩ := h3 hl
  refine ⟨g, o, h4, fun j hj => ?_⟩
  have hc := h5 j hj
  have hg : g ≠ b := by
    rintro rfl
    rw [h.cell] at hc
    have := Array.all_eq_true_iff_forall_mem.1 hp _ (Array.mem_of_getElem? hc)
    simp [plainV] at this
  rw [World.cell?_of_block (w := W) (a := ⟨g, o + j, none⟩) (Below.heap_setCell _ _ _ _ (by simpa using hg))]
  exact hc
theorem Bx.other {W : World} {b b' : Nat} {cs : Array Value} {t : TypeId} (h : Bx W b cs t) (hb : b ≠ b') (i : Nat) (u : Value) : Bx (W.setCell ⟨b', i, none⟩ u) b cs t := by
  unfold Bx at *
  rw [Below.heap_setCell _ _ _ _ (by simpa using hb)]; exact h
theorem Bx.two {W : World} {b : Nat} {z0 z1 : Value} {t : TypeId} (h : Bx W b #[z0, z1] t) : W.cell? ⟨b, 0, none⟩ = some z0 ∧ W.cell? ⟨b, 1, none⟩ = some z1 := ⟨h.cell 0, h.cell 1⟩
theorem Bx.four {W : World} {b : Nat} {z0 z1 z2 z3 : Value} {t : TypeId} (h : Bx W b #[z0, z1, z2, z3] t) :
    W.cell? ⟨b, 0, none⟩ = some z0 ∧ W.cell? ⟨b, 1, none⟩ = some z1 ∧ W.cell? ⟨b, 2, none⟩ = some z2 ∧ W.cell? ⟨b, 3, none⟩ = some z3 := ⟨h.cell 0, h.cell 1, h.cell 2, h.cell 3⟩
theorem Bx.two' {W : World} {b : Nat} {z0 z1 : Value} {t : TypeId} (h : Bx W b #[z0, z1] t) : W.frozen? ⟨b, 0, none⟩ = false ∧ W.frozen? ⟨b, 1, none⟩ = false := ⟨h.no 0, h.no 1⟩
/-- digits lie in no such block: whatever is done to it -/
theorem Bx.rows {W W' : World} {b : Nat} {cs : Array Value} {t : TypeId} (h : Bx W b cs t) (hp : cs.all plainV = true) {v : Value} {ds : List Nat} (hr : Row W v ds) (hk : ∀ k, k ≠ b → W'.heap[k]? = W.heap[k]?) : Row W' v ds := by
  obtain ⟨h1, A, c, h2, h3, h6⟩ := hr
  refine ⟨h1, A, c, h2, fun hl => ?_, h6⟩
  obtain ⟨g, o, h4, h5⟩ := h3 hl
  refine ⟨g, o, h4, fun j hj => ?_⟩
  have hc := h5 j hj
  have hg : g ≠ b := by
    rintro rfl
    rw [h.cell] at hc
    have := Array.all_eq_true_iff_forall_mem.1 hp _ (Array.mem_of_getElem? hc)
    simp [plainV] at this
  rw [World.cell?_of_block (w := W) (w' := W') (a := ⟨g, o + j, none⟩) (hk g hg)]
  exact hc
/-- a number's two cells, a fraction's four, stored -/
abbrev put2 (W : World) (b : Nat) (u0 u1 : Value) : World := (W.setCell ⟨b, 0, none⟩ u0).setCell ⟨b, 1, none⟩ u1
theorem Bx.put2 {W : World} {b : Nat} {z0 z1 : Value} {t : TypeId} (h : Bx W b #[z0, z1] t) (u0 u1 : Value) : Bx (Go.Proofs.Ytilgmkhcpmegjaa.put2 W b u0 u1) b #[u0, u1] t := by
  have h1 := heap_setCell_same W b 0 _ t u0 h
  exact heap_setCell_same _ b 1 _ t u1 h1
theorem since_put2 {w W : World} {b : Nat} (h : Since w W) (hb : w.heap.size ≤ b) (u0 u1 : Value) : Since w (put2 W b u0 u1) := (h.set hb _).set hb _
end
end Go.Proofs.Ytilgmkhcpmegjaa
end
section
namespace Go.Proofs.Ytilgmkhcpmegjaa.Tk
open Go.RowKit
open Go.Proofs.Ytilgmkhcpmegjaa.Dig Go.Proofs.Ytilgmkhcpmegjaa.Lx
/-- a token, as it lies in memory -/
structure Tv where
  k : Int
  s : ByteArray
  v : Int
  a : Int
def Tv.nil : Tv := ⟨0, ⟨#[]⟩, 0, 0⟩
def cells4 (t : Tv) : List Value := [.int .i64 t.k, .string t.s, .int .i64 t.v, .int .i64 t.a]
def tcells : List Tv → List Value
  | [] => []
  | t :: r => cells4 t ++ tcells r
theorem tcells_len : ∀ ts : List Tv, (tcells ts).length = ts.length * 4
  | [] => rfl
  | t :: r => by simp only [tcells, List.length_append, tcells_len r, cells4, List.length_cons, List.length_nil]; omega
theorem tcells_get : ∀ (ts : List Tv) (i j : Nat), i < ts.length → j < 4 → (tcells ts)[i * 4 + j]? = (cells4 (ts.getD i .nil))[j]?
  | [], i, j, h, hj => by simp at h
  | t :: r, 0, j, h, hj => by
    simp only [tcells, Nat.zero_mul, Nat.zero_add]
    rw [List.getElem?_append_left (by simp [cells4]; omega)]
    simp
  | t :: r, i + 1, j, h, hj => by
    simp only [tcells]
    rw [List.getElem?_append_right (by simp [cells4]; omega)]
    have e : (i + 1) * 4 + j - (cells4 t).length = i * 4 + j := by simp [cells4]; omega
    rw [e, tcells_get r i j (by simpa using h) hj]
    simp [List.getD]
/-- the four cells of a token stand at a place -/
def Tok4 (w : World) (b o : Nat) (t : Tv) : Prop :=
  w.cell? ⟨b, o, none⟩ = some (.int .i64 t.k) ∧ w.cell? ⟨b, o + 1, none⟩ = some (.string t.s) ∧ w.cell? ⟨b, o + 2, none⟩ = some (.int .i64 t.v) ∧ w.cell? ⟨b, o + 3, none⟩ = some (.int .i64 t.a)
theorem Tok4.since {w w' : World} {b o : Nat} {t : Tv} (h : Tok4 w b o t) (k : Since w w') : Tok4 w' b o t := by
  obtain ⟨h1, h2, h3, h4⟩ := h
  have hb := World.block_lt_of_cell? _ _ h1
  exact ⟨(k.cell _ hb).trans h1, (k.cell ⟨b, o + 1, none⟩ hb).trans h2, (k.cell ⟨b, o + 2, none⟩ hb).trans h3, (k.cell ⟨b, o + 3, none⟩ hb).trans h4⟩
theorem Tok4.alloc {w : World} {b o : Nat} {t : Tv} (h : Tok4 w b o t) (x : Obj) : Tok4 (w.alloc x) b o t := h.since (since_alloc w x)
/-- the slice v reads as the tokens ts -/
def Toks (w : World) (v : Value) (ts : List Tv) : Prop :=
  ∃ A c, v = .slice A ts.length c ∧ ts.length ≤ c ∧ (0 < ts.length → ∃ b o, A = some ⟨b, o, none⟩ ∧ ∀ i, i < ts.length → Tok4 w b (o + i * 4) (ts.getD i .nil))
theorem Toks.since {w w' : World} {v : Value} {ts : List Tv} (h : Toks w v ts) (k : Since w w') : Toks w' v ts := by
  obtain ⟨A, c, h1, h2, h3⟩ := h
  refine ⟨A, c, h1, h2, fun hl => ?_⟩
  obtain ⟨b, o, h4, h5⟩ := h3 hl
  exact ⟨b, o, h4, fun i hi => (h5 i hi).since k⟩
theorem Toks.nil (w : World) : Toks w (.slice none 0 0) [] := ⟨none, 0, rfl, Nat.le_refl _, fun h => absurd h (Nat.lt_irrefl 0)⟩
/-- a row that the call owns reads as its tokens -/
theorem Toks.own {w : World} {base : Nat} {e : TypeId} {v : Value} {n : Nat} {ts : List Tv} (h : w.ownsRow base e 4 v n (tcells ts)) : Toks w v ts := by
  have hl : ts.length = n := by have := h.1; rw [tcells_len] at this; omega
  subst hl
  have hc := fun (g : Nat) => h.cells (g := g)
  rcases h.2 with ⟨h1, h2⟩ | ⟨g, cap, cur, h1, _, _, hcap, _⟩
  · exact ⟨none, 0, by rw [h1, h2], by omega, fun h => by omega⟩
  · refine ⟨some ⟨g, 0, none⟩, cap, h1, hcap, fun _ => ⟨g, 0, rfl, fun i hi => ?_⟩⟩
    have q := fun (j : Nat) (u : Value) (hj : j < 4) (hu : (cells4 (ts.getD i .nil))[j]? = some u) =>
      hc g (by rw [h1]; rfl) (i * 4 + j) u (by rw [tcells_get ts i j hi hj]; exact hu)
    simp only [add_block, Nat.zero_add] at q
    refine ⟨?_, ?_, ?_, ?_⟩
    · simpa using q 0 _ (by omega) rfl
    · simpa using q 1 _ (by omega) rfl
    · simpa using q 2 _ (by omega) rfl
    · simpa using q 3 _ (by omega) rfl
theorem Toks.at_ {w : World} {A : Option Addr} {n c : Nat} {ts : List Tv} (h : Toks w (.slice A n c) ts) : n = ts.length ∧ ts.length ≤ c := by
  obtain ⟨A', c', h1, h2, -⟩ := h
  injection h1 with _ e1 e2
  subst e1 e2
  exact ⟨rfl, h2⟩
theorem Toks.el {w : World} {A : Option Addr} {n c : Nat} {ts : List Tv} (h : Toks w (.slice A n c) ts) {i : Nat} (hi : i < ts.length) : ∃ b o, A = some ⟨b, o, none⟩ ∧ Tok4 w b (o + i * 4) (ts.getD i .nil) := by
  obtain ⟨A', c', h1, h2, h3⟩ := h
  obtain ⟨b, o, h4, h5⟩ := h3 (by omega)
  injection h1 with e0 e1 e2
  subst e0
  exact ⟨b, o, h4, h5 i hi⟩
theorem add_at (b o k : Nat) : (⟨b, o, none⟩ : Addr).add k = ⟨b, o + k, none⟩ := by
  unfold Addr.add; by_cases h : k = 0 <;> simp [h]
/-- a word of the document's, as it lies in memory -/
def tv (t : Tok) : Tv := ⟨(t.kind : Int), ⟨t.txt.toArray⟩, t.val, (t.at_ : Int)⟩
/-- a row of the call's own stays while the world grows -/
theorem owns_since {w w' : World} {base : Nat} {e : TypeId} {size : Nat} {v : Value} {n : Nat} {xs : List Value} (h : w.ownsRow base e size v n xs) (k : Since w w') : w'.ownsRow base e size v n xs := by
  refine ⟨h.1, ?_⟩
  rcases h.2 with h1 | ⟨g, cap, cur, h1, h2, h3, h4⟩
  · exact .inl h1
  · refine .inr ⟨g, cap, cur, h1, h2, ?_, h4⟩
    have hg : g < w.heap.size := by
      apply Decidable.byContradiction; intro hn
      rw [Array.getElem?_eq_none (by omega)] at h3; cases h3
    rw [k.block g hg]; exact h3
theorem owns_slice {w : World} {base : Nat} {e : TypeId} {size : Nat} {v : Value} {n : Nat} {xs : List Value} (h : w.ownsRow base e size v n xs) : ∃ A c, v = .slice A n c := by
  rcases h.2 with ⟨h1, h2⟩ | ⟨g, cap, cur, h1, _⟩
  · exact ⟨none, 0, by rw [h1, h2]⟩
  · exact ⟨_, _, h1⟩
/-- ends with tokens, a place and an error -/
def RetT (r : List Tok × Nat × Int) (w : World) (e : Ending) (w' : World) : Prop :=
  ∃ A c, e = .returned (.tuple #[.slice A r.1.length c, .int .i64 (r.2.1 : Int), .int .i64 r.2.2]) ∧ Toks w' (.slice A r.1.length c) (r.1.map tv) ∧ Since w w'
theorem RetT.no {p : Nat} {x : Int} {r : List Tok × Nat × Int} {w w' : World} (h : r = ([], p, x)) (k : Since w w') : RetT r w (.returned (.tuple #[.slice none 0 0, .int .i64 (p : Int), .int .i64 x])) w' := by
  subst h; exact ⟨none, 0, rfl, Toks.nil _, k⟩
theorem RetT.yes {acc : List Tok} {m c : Nat} {A : Option Addr} {r : List Tok × Nat × Int} {w w' : World} (h : r = (acc, 0, 0)) (hm : acc.length = m) (hq : Toks w' (.slice A m c) (acc.map tv)) (k : Since w w') :
    RetT r w (.returned (.tuple #[.slice A m c, .int .i64 0, .int .i64 0])) w' := by
  subst h hm; exact ⟨A, c, rfl, hq, k⟩
end Go.Proofs.Ytilgmkhcpmegjaa.Tk
end
section
namespace Go.Proofs.Ytilgmkhcpmegjaa.Tk
open Go.RowKit
theorem run_append_nil {P : Program} {w : World} {base : Nat} {t ty e : TypeId} {i : TypeInfo} {size : Nat} (ht : P.underlying t = some (.slice e)) (hi : P.info? e = some i)
    {v : Value} {n : Nat} {xs : List Value} (hown : w.ownsRow base e size v n xs) (c : Nat) : (Builtin.append_ #[t, t] ty #[v, .slice none 0 c]).run P w = .ok v w := by
  rcases hown.2 with ⟨rfl, rfl⟩ | ⟨g, cap, cur, rfl, _, _, hnc, _⟩
  · simp [Builtin.append_, run_underlying ht, sizeOf, typeInfo, hi, Builtin.lenOf, Builtin.firstCells]
  · simp [Builtin.append_, run_underlying ht, sizeOf, typeInfo, hi, Builtin.lenOf, Builtin.firstCells, hnc, storeCells]
/-- the cells of a slice's tokens -/
theorem Toks.cells {w : World} {b o m c : Nat} {ts : List Tv} (h : Toks w (.slice (some ⟨b, o, none⟩) m c) ts) : ∀ j u, (tcells ts)[j]? = some u → w.cell? ((⟨b, o, none⟩ : Addr).add j) = some u := by
  intro j u hj
  rw [add_at]
  have hl : j < (tcells ts).length := by
    apply Decidable.byContradiction; intro hn
    rw [List.getElem?_eq_none (by omega)] at hj; cases hj
  rw [tcells_len] at hl
  obtain ⟨b', o', e, h1, h2, h3, h4⟩ := h.el (i := j / 4) (by omega)
  injection e with e
  injection e with e1 e2
  subst e1 e2
  have ej : j = j / 4 * 4 + j % 4 := by omega
  have hg := tcells_get ts (j / 4) (j % 4) (by omega) (by omega)
  rw [← ej] at hg
  rw [hg] at hj
  have hr : j % 4 = 0 ∨ j % 4 = 1 ∨ j % 4 = 2 ∨ j % 4 = 3 := by omega
  rcases hr with hr | hr | hr | hr <;> rw [hr] at hj ej <;> injection hj with hj <;> subst hj
  · rw [show o + j = o + j / 4 * 4 by omega]; exact h1
  · rw [show o + j = o + j / 4 * 4 + 1 by omega]; exact h2
  · rw [show o + j = o + j / 4 * 4 + 2 by omega]; exact h3
  · rw [show o + j = o + j / 4 * 4 + 3 by omega]; exact h4
end Go.Proofs.Ytilgmkhcpmegjaa.Tk
end
