/- Plain facts on digits to the base 2^32: the number of a list of digits, the digits of a number. No Go in sight -/
import Derived.WalkKit
import Derived.OpenShut
import Derived.BigQuiet
import Derived.Deep.QuietTactic
import Derived.Deep.RegionHeld3
import Derived.Laws.Rows
import Derived.Lib.Hide
import Derived.ProofKit
import Derived.WalkSmall
import Derived.Test.YtalcgjkegohhgaaRows
set_option linter.unusedVariables false
set_option linter.unusedSimpArgs false
section
namespace Go.Proofs.Ytalcgjkegohhgaa.Dig
def IsDig (ds : List Nat) : Prop := ∀ d ∈ ds, d < 4294967296
theorem isDig_nil : IsDig [] := by intro d hd; simp at hd
end Go.Proofs.Ytalcgjkegohhgaa.Dig
end
section
namespace Go.Proofs.Ytalcgjkegohhgaa.Num
open Go.RowKit
/-- the number is one of 64 bits -/
def fits (n : Int) : Bool := decide (-9223372036854775808 ≤ n ∧ n ≤ 9223372036854775807)
theorem fits_of {n : Int} (h : -9223372036854775808 ≤ n ∧ n ≤ 9223372036854775807) : fits n = true := by simp [fits, h]
theorem of_fits {n : Int} (h : fits n = true) : -9223372036854775808 ≤ n ∧ n ≤ 9223372036854775807 := by simpa [fits] using h
/-- the value where it fits, else nothing -/
def val (n : Int) : Int := if fits n = true then n else 0
/-- the error: none where it fits, else 4 -/
def err (n : Int) : Int := if fits n = true then 0 else 4
theorem val_in {n : Int} (h : fits n = true) : val n = n := by simp [val, h]
theorem val_out {n : Int} (h : fits n = false) : val n = 0 := by simp [val, h]
theorem err_in {n : Int} (h : fits n = true) : err n = 0 := by simp [err, h]
theorem err_out {n : Int} (h : fits n = false) : err n = 4 := by simp [err, h]
theorem wrap_in {n : Int} (h : fits n = true) : wrap64 n = n := by
  have := of_fits h; unfold wrap64; omega
theorem wrap_fits (n : Int) : fits (wrap64 n) = true := by
  apply fits_of; unfold wrap64; omega
/-- two numbers as one result -/
abbrev two (v e : Int) : Ending := .returned (.tuple #[.int .i64 v, .int .i64 e])
theorem two_eq {v e v' e' : Int} (h1 : v = v') (h2 : e = e') : two v e = two v' e' := by rw [h1, h2]
theorem tdiv_bounds (p b : Int) (hp : fits p = true) (hx : ¬ (p = -9223372036854775808 ∧ b = -1)) : fits (p.tdiv b) = true := by
  have h := Int.natAbs_tdiv p b
  have hp' := of_fits hp
  have hle : p.natAbs.div b.natAbs ≤ p.natAbs := Nat.div_le_self _ _
  by_cases h0 : b = 0
  · subst h0; simp; decide
  by_cases h1 : b = 1
  · subst h1; simpa using hp
  by_cases h2 : b = -1
  · subst h2
    have : p.tdiv (-1) = - p := by rw [Int.tdiv_neg]; simp
    rw [this]; apply fits_of; omega
  · have h3 : p.natAbs.div b.natAbs ≤ p.natAbs / 2 := Nat.div_le_div_left (by omega) (by omega)
    apply fits_of; omega
/-- the product, divided, gives the factor back exactly where it fits -/
theorem mul_back (a b : Int) (ha : fits a = true) (hb : fits b = true) (h0 : b ≠ 0) (hx : ¬ (a = -9223372036854775808 ∧ b = -1)) :
    (wrap64 ((wrap64 (a * b)).tdiv b) = a) ↔ fits (a * b) = true := by
  constructor
  · intro h
    have ha' := of_fits ha
    have hb' := of_fits hb
    by_cases hl : wrap64 (a * b) = -9223372036854775808 ∧ b = -1
    · obtain ⟨h1, h2⟩ := hl
      rw [h1, h2] at h
      exact absurd ⟨h.symm.trans (by unfold wrap64; decide), h2⟩ hx
    · have hf := tdiv_bounds (wrap64 (a * b)) b (wrap_fits _) hl
      rw [wrap_in hf] at h
      have hm := Int.mul_tdiv_add_tmod (wrap64 (a * b)) b
      have hn := Int.natAbs_tmod (wrap64 (a * b)) b
      have hlt : (wrap64 (a * b)).natAbs % b.natAbs < b.natAbs := Nat.mod_lt _ (by omega)
      rw [h, Int.mul_comm b a] at hm
      generalize (wrap64 (a * b)).tmod b = m at *
      generalize hy : a * b = y at *
      rw [← hn] at hlt
      apply fits_of
      unfold wrap64 at hm
      omega
  · intro h
    rw [wrap_in h, Int.mul_tdiv_cancel a h0, wrap_in ha]
/-- the quotient cut toward nought, and what is left -/
def quo (a b : Int) : Int := a.tdiv b
def rem (a b : Int) : Int := a.tmod b
theorem quo_rem (a b : Int) : b * quo a b + rem a b = a := Int.mul_tdiv_add_tmod a b
theorem rem_small {a b : Int} (hb : b ≠ 0) : (rem a b).natAbs < b.natAbs := by
  unfold rem; rw [Int.natAbs_tmod]; exact Nat.mod_lt _ (by omega)
theorem rem_sign (a b : Int) : (0 ≤ a → 0 ≤ rem a b) ∧ (a ≤ 0 → rem a b ≤ 0) := by
  unfold rem
  refine ⟨fun h => Int.tmod_nonneg b h, fun h => ?_⟩
  have h1 : (-a).tmod b = -(a.tmod b) := by rw [Int.neg_tmod]
  have h2 := Int.tmod_nonneg b (show 0 ≤ -a by omega)
  omega
theorem quo_half {a b : Int} (ha : fits a = true) (hr : rem a b ≠ 0) : -4611686018427387904 ≤ quo a b ∧ quo a b ≤ 4611686018427387904 := by
  have ha' := of_fits ha
  have h := Int.natAbs_tdiv a b
  by_cases h0 : b = 0
  · subst h0; simp [quo]
  have hs := rem_small (a := a) h0
  have h3 : a.natAbs.div b.natAbs ≤ a.natAbs / 2 := Nat.div_le_div_left (by omega) (by omega)
  unfold quo
  omega
/-- what a division is refused for -/
def dbad (a b : Int) : Int := if b = 0 then 2 else if a = -9223372036854775808 ∧ b = -1 then 4 else 0
/-- rounded down, rounded up -/
def flo (a b : Int) : Int := if dbad a b ≠ 0 then 0 else if rem a b ≠ 0 ∧ ¬ (a < 0 ↔ b < 0) then quo a b - 1 else quo a b
def cei (a b : Int) : Int := if dbad a b ≠ 0 then 0 else if rem a b ≠ 0 ∧ (a < 0 ↔ b < 0) then quo a b + 1 else quo a b
theorem dbad_ok {a b : Int} (h0 : b ≠ 0) (hx : ¬ (a = -9223372036854775808 ∧ b = -1)) : dbad a b = 0 := by
  unfold dbad; rw [if_neg h0, if_neg hx]
theorem rem_neg {a b : Int} (h : rem a b ≠ 0) : (rem a b < 0) ↔ (a < 0) := by
  have := rem_sign a b; omega
end Go.Proofs.Ytalcgjkegohhgaa.Num
end
section
namespace Go.Proofs.Ytalcgjkegohhgaa.Dig
/-- the decimal digits of a number behind its leading noughts: none of 0 -/
def decsF : Nat → Nat → List UInt8
  | 0, _ => []
  | f + 1, n => if n = 0 then [] else decsF f (n / 10) ++ [UInt8.ofNat (48 + n % 10)]
def decs (n : Nat) : List UInt8 := decsF n n
/-- a number in decimal digits -/
def text (n : Nat) : List UInt8 := if n = 0 then [48] else decs n
end Go.Proofs.Ytalcgjkegohhgaa.Dig
end
section
namespace Go.Proofs.Ytalcgjkegohhgaa.Lx
open Go.Proofs.Ytalcgjkegohhgaa.Dig
abbrev Bs := List UInt8
def letterB (c : UInt8) : Bool := decide (97 ≤ c.toNat ∧ c.toNat ≤ 122) || decide (65 ≤ c.toNat ∧ c.toNat ≤ 90) || decide (c.toNat = 95)
def digB (c : UInt8) : Bool := decide (48 ≤ c.toNat ∧ c.toNat ≤ 57)
def whiteB (c : UInt8) : Bool := decide (c.toNat = 32 ∨ c.toNat = 9 ∨ c.toNat = 10 ∨ c.toNat = 13)
def signB (c : UInt8) : Bool := decide (c.toNat = 58 ∨ c.toNat = 123 ∨ c.toNat = 125 ∨ c.toNat = 91 ∨ c.toNat = 93 ∨ c.toNat = 40 ∨ c.toNat = 41 ∨ c.toNat = 44 ∨ c.toNat = 59 ∨ c.toNat = 61)
def wordB (c : UInt8) : Bool := letterB c || digB c
/-- how many blank bytes stand in front; true: within a comment -/
def blk : Bool → Bs → Nat
  | _, [] => 0
  | true, c :: t => if c.toNat = 10 then 1 + blk false t else 1 + blk true t
  | false, c :: t => if c.toNat = 37 then 1 + blk true t else if whiteB c = true then 1 + blk false t else 0
/-- how many bytes of a sort stand in front -/
def run (p : UInt8 → Bool) : Bs → Nat
  | [] => 0
  | c :: t => if p c = true then 1 + run p t else 0
/-- the kind and the length of the token in front -/
def word : Bs → Nat × Nat
  | [] => (0, 0)
  | c :: t =>
    if letterB c = true then (1, 1 + run wordB t)
    else if digB c = true then (2, 1 + run digB t)
    else if c.toNat = 45 ∧ 0 < run digB t then (2, 1 + run digB t)
    else if (c.toNat = 58 ∨ c.toNat = 46) ∧ t.head? = some c then (3, 2)
    else if signB c = true then (3, 1)
    else (0, 0)
def fits (v : Int) : Prop := -9223372036854775808 ≤ v ∧ v < 9223372036854775808
instance (v : Int) : Decidable (fits v) := by unfold fits; infer_instance
structure Tok where
  kind : Nat
  txt : Bs
  val : Int
  at_ : Nat
/-- how far the next token stands -/
def next (l : Bs) : Nat := (word l).2 + blk false (l.drop (word l).2)
section
open Go.Proofs.Ytalcgjkegohhgaa.Dig
end
section
open Go.Proofs.Ytalcgjkegohhgaa.Dig
/-- the bytes of a text -/
def L (s : ByteArray) : Bs := s.data.toList
end
end Go.Proofs.Ytalcgjkegohhgaa.Lx
end
section
namespace Go.Proofs.Ytalcgjkegohhgaa
open Go.RowKit
open Go.Proofs.Ytalcgjkegohhgaa.Dig
/-- what was there before is as it was -/
def Since (w w' : World) : Prop := Below w.heap.size w w'
theorem Since.refl (w : World) : Since w w := Below.refl _ _
theorem Since.trans {a b c : World} (h : Since a b) (k : Since b c) : Since a c := Below.trans h (Below.mono k h.size)
theorem Since.alloc {a b : World} (h : Since a b) (o : Obj) : Since a (b.alloc o) := Below.alloc h h.size o
theorem Since.set {a b : World} (h : Since a b) {p : Addr} (hp : a.heap.size ≤ p.block) (u : Value) : Since a (b.setCell p u) := Below.setCell h hp u
theorem Since.drewN {a b : World} (h : Since a b) (n : Nat) : Since a (b.drewN n) := below_drewN h n
theorem Since.drew {a b : World} (h : Since a b) : Since a b.drew := Below.drew h
/-- digits as cells -/
def u32s (ds : List Nat) : List Value := ds.map fun (d : Nat) => Value.int .u32 (d : Int)
/-- the slice v reads as the digits ds -/
def Row (w : World) (v : Value) (ds : List Nat) : Prop :=
  IsDig ds ∧ ∃ A c, v = .slice A ds.length c ∧ (0 < ds.length → ∃ b o, A = some ⟨b, o, none⟩ ∧ ∀ i, i < ds.length → w.cell? ⟨b, o + i, none⟩ = some (.int .u32 ((ds.getD i 0 : Nat) : Int))) ∧ ds.length ≤ c
theorem Row.since {w w' : World} {v : Value} {ds : List Nat} (h : Row w v ds) (k : Since w w') : Row w' v ds := by
  obtain ⟨h1, A, c, h2, h3, h6⟩ := h
  refine ⟨h1, A, c, h2, fun hl => ?_, h6⟩
  obtain ⟨b, o, h4, h5⟩ := h3 hl
  exact ⟨b, o, h4, fun i hi => (Below.cell k (World.block_lt_of_cell? _ _ (h5 i hi))).trans (h5 i hi)⟩
theorem Row.nil (w : World) : Row w (.slice none 0 0) [] := ⟨isDig_nil, none, 0, rfl, fun h => by simp at h, Nat.le_refl _⟩
theorem add_block (b o i : Nat) : (⟨b, o, none⟩ : Addr).add i = ⟨b, o + i, none⟩ := by
  unfold Addr.add; by_cases h : i = 0 <;> simp [h]
/-- a row that the call owns reads as its digits -/
theorem Row.own {w : World} {base : Nat} {e : TypeId} {v : Value} {n : Nat} {ds : List Nat} (hd : IsDig ds) (h : w.ownsRow base e 1 v n (u32s ds)) : Row w v ds := by
  have hl : ds.length = n := by have := h.1; simpa [u32s] using this
  subst hl
  refine ⟨hd, ?_⟩
  have hc := fun (g : Nat) => h.cells (g := g)
  rcases h.2 with ⟨h1, h2⟩ | ⟨g, cap, cur, h1, _, _, hcap, _⟩
  · exact ⟨none, 0, by rw [h1, h2], fun h => by omega, by omega⟩
  · refine ⟨some ⟨g, 0, none⟩, cap, h1, fun _ => ⟨g, 0, rfl, fun i hi => ?_⟩, hcap⟩
    have := hc g (by rw [h1]; rfl) i (.int .u32 ((ds.getD i 0 : Nat) : Int)) (by simp [u32s, hi, List.getD])
    rw [add_block] at this
    simpa using this
/-- ends with a slice that reads as the digits, and leaves what was there -/
def RetRow (ds : List Nat) (w : World) (e : Ending) (w' : World) : Prop := ∃ v, e = .returned v ∧ Row w' v ds ∧ Since w w'
section
open Go.RowKit
open Go.Proofs.Ytalcgjkegohhgaa.Dig
theorem since_alloc (W : World) (o : Obj) : Since W (W.alloc o) := (Since.refl W).alloc o
end
section
open Go.RowKit
open Go.Proofs.Ytalcgjkegohhgaa.Dig
/-- ends with a slice that is seen as one -/
def RetSl (ds : List Nat) (w : World) (e : Ending) (w' : World) : Prop := ∃ A c, e = .returned (.slice A ds.length c) ∧ Row w' (.slice A ds.length c) ds ∧ Since w w'
theorem RetRow.sl {ds : List Nat} {w : World} {e : Ending} {w' : World} (h : RetRow ds w e w') : RetSl ds w e w' := by
  obtain ⟨v, rfl, hr, hs⟩ := h
  obtain ⟨h1, A, c, rfl, h3, h6⟩ := hr
  exact ⟨A, c, rfl, ⟨h1, A, c, rfl, h3, h6⟩, hs⟩
theorem Since.cell {a b : World} (h : Since a b) (p : Addr) (hp : p.block < a.heap.size) : b.cell? p = a.cell? p := Below.cell h hp
theorem block_new {w W : World} {o : Obj} (h : Since (w.alloc o) W) : W.heap[w.heap.size]? = some o := by
  rw [h.block w.heap.size (by simp), heap_alloc_new]
end
section
open Go.RowKit
open Go.Proofs.Ytalcgjkegohhgaa.Dig
/-- block b holds these cells, and may be written -/
def Bx (W : World) (b : Nat) (cs : Array Value) (t : TypeId) : Prop := W.heap[b]? = some (.cells cs t)
theorem Bx.lt {W : World} {b : Nat} {cs : Array Value} {t : TypeId} (h : Bx W b cs t) : b < W.heap.size := by
  unfold Bx at h
  apply Decidable.byContradiction; intro hn
  rw [Array.getElem?_eq_none (by omega)] at h; cases h
theorem Bx.since {W W' : World} {b : Nat} {cs : Array Value} {t : TypeId} (h : Bx W b cs t) (k : Since W W') : Bx W' b cs t := by
  have hl := h.lt
  unfold Bx at *
  rw [k.block b hl]; exact h
theorem Bx.fresh (W : World) (cs : Array Value) (t : TypeId) : Bx (W.alloc (.cells cs t)) W.heap.size cs t := block_new (Since.refl _)
theorem Bx.new {W W' : World} {cs : Array Value} {t : TypeId} {n : Nat} (k : Since (W.alloc (.cells cs t)) W') (e : W.heap.size = n) : Bx W' n cs t := e ▸ (Bx.fresh W cs t).since k
theorem Bx.cell {W : World} {b : Nat} {cs : Array Value} {t : TypeId} (h : Bx W b cs t) (i : Nat) : W.cell? ⟨b, i, none⟩ = cs[i]? := cell_of_row W b i cs t (0, 0) h
theorem Bx.no {W : World} {b : Nat} {cs : Array Value} {t : TypeId} (h : Bx W b cs t) (i : Nat) : W.frozen? ⟨b, i, none⟩ = false := by
  unfold Bx at h
  simp [World.frozen?, h]
/-- no cell of the block is a digit -/
abbrev plainV : Value → Bool
  | .int .u32 _ => false
  | _ => true
theorem Bx.row {W : World} {b : Nat} {cs : Array Value} {t : TypeId} (h : Bx W b cs t) (hp : cs.all plainV = true) {v : Value} {ds : List Nat} (hr : Row W v ds) (i : Nat) (u : Value) : Row (W.setCell ⟨b, i, none⟩ u) v ds := by
  obtain ⟨h1, A, c, h2, h3, h6⟩ := hr
  refine ⟨h1, A, c, h2, fun hl => ?_, h6⟩
  obtain ⟨g, o, h4, h5⟩ := h3 hl
  refine ⟨g, o, h4, fun j hj => ?_⟩
  have hc := h5 j hj
  have hg : g ≠ b := by
    rintro rfl
    rw [h.cell] at hc
    have := Array.all_eq_true_iff_forall_mem.1 hp _ (Array.mem_of_getElem? hc)
    simp [plainV] at this
  rw [World.cell?_of_block (w := W) (a := ⟨g, o + j, none⟩) (Below.heap_setCell _ _ _ _ (by simpa using hg))]
  exact hc
theorem Bx.other {W : World} {b b' : Nat} {cs : Array Value} {t : TypeId} (h : Bx W b cs t) (hb : b ≠ b') (i : Nat) (u : Value) : Bx (W.setCell ⟨b', i, none⟩ u) b cs t := by
  unfold Bx at *
  rw [Below.heap_setCell _ _ _ _ (by simpa using hb)]; exact h
theorem Bx.two {W : World} {b : Nat} {z0 z1 : Value} {t : TypeId} (h : Bx W b #[z0, z1] t) : W.cell? ⟨b, 0, none⟩ = some z0 ∧ W.cell? ⟨b, 1, none⟩ = some z1 := ⟨h.cell 0, h.cell 1⟩
theorem Bx.four {W : World} {b : Nat} {z0 z1 z2 z3 : Value} {t : TypeId} (h : Bx W b #[z0, z1, z2, z3] t) :
    W.cell? ⟨b, 0, none⟩ = some z0 ∧ W.cell? ⟨b, 1, none⟩ = some z1 ∧ W.cell? ⟨b, 2, none⟩ = some z2 ∧ W.cell? ⟨b, 3, none⟩ = some z3 := ⟨h.cell 0, h.cell 1, h.cell 2, h.cell 3⟩
theorem Bx.two' {W : World} {b : Nat} {z0 z1 : Value} {t : TypeId} (h : Bx W b #[z0, z1] t) : W.frozen? ⟨b, 0, none⟩ = false ∧ W.frozen? ⟨b, 1, none⟩ = false := ⟨h.no 0, h.no 1⟩
/-- digits lie in no such block: whatever is done to it -/
theorem Bx.rows {W W' : World} {b : Nat} {cs : Array Value} {t : TypeId} (h : Bx W b cs t) (hp : cs.all plainV = true) {v : Value} {ds : List Nat} (hr : Row W v ds) (hk : ∀ k, k ≠ b → W'.heap[k]? = W.heap[k]?) : Row W' v ds := by
  obtain ⟨h1, A, c, h2, h3, h6⟩ := hr
  refine ⟨h1, A, c, h2, fun hl => ?_, h6⟩
  obtain ⟨g, o, h4, h5⟩ := h3 hl
  refine ⟨g, o, h4, fun j hj => ?_⟩
  have hc := h5 j hj
  have hg : g ≠ b := by
    rintro rfl
    rw [h.cell] at hc
    have := Array.all_eq_true_iff_forall_mem.1 hp _ (Array.mem_of_getElem? hc)
    simp [plainV] at this
  rw [World.cell?_of_block (w := W) (w' := W') (a := ⟨g, o + j, none⟩) (hk g hg)]
  exact hc
/-- a number's two cells, a fraction's four, stored -/
abbrev put2 (W : World) (b : Nat) (u0 u1 : Value) : World := (W.setCell ⟨b, 0, none⟩ u0).setCell ⟨b, 1, none⟩ u1
theorem Bx.put2 {W : World} {b : Nat} {z0 z1 : Value} {t : TypeId} (h : Bx W b #[z0, z1] t) (u0 u1 : Value) : Bx (Go.Proofs.Ytalcgjkegohhgaa.put2 W b u0 u1) b #[u0, u1] t := by
  have h1 := heap_setCell_same W b 0 _ t u0 h
  exact heap_setCell_same _ b 1 _ t u1 h1
theorem since_put2 {w W : World} {b : Nat} (h : Since w W) (hb : w.heap.size ≤ b) (u0 u1 : Value) : Since w (put2 W b u0 u1) := (h.set hb _).set hb _
end
end Go.Proofs.Ytalcgjkegohhgaa
end
