/- A slice of 32-bit digits that reads as a list of numbers; what was there before a call is there behind it. -/
import Derived.Test.YtfcinefmnigacaaRows
import Derived.Test.YtfcinefmnigacaaDig
import Derived.WalkKit
import Derived.ProofKit
import Derived.OpenShut
import Derived.Lib.Hide
import Derived.WalkSmall
import Derived.Deep.QuietTactic
import Derived.BigQuiet
namespace Go.Proofs.Ytfcinefmnigacaa
open Go.RowKit
open Go.Proofs.Ytfcinefmnigacaa.Dig

/-- what was there before is as it was -/
def Since (w w' : World) : Prop := Below w.heap.size w w'
theorem Since.refl (w : World) : Since w w := Below.refl _ _
theorem Since.trans {a b c : World} (h : Since a b) (k : Since b c) : Since a c := Below.trans h (Below.mono k h.size)
theorem Since.alloc {a b : World} (h : Since a b) (o : Obj) : Since a (b.alloc o) := Below.alloc h h.size o
theorem Since.set {a b : World} (h : Since a b) {p : Addr} (hp : a.heap.size ≤ p.block) (u : Value) : Since a (b.setCell p u) := Below.setCell h hp u
theorem Since.drewN {a b : World} (h : Since a b) (n : Nat) : Since a (b.drewN n) := below_drewN h n
theorem Since.drew {a b : World} (h : Since a b) : Since a b.drew := Below.drew h

theorem ret_bool {a b : Bool} (h : a = b) : Ending.returned (.bool a) = .returned (.bool b) := by rw [h]
theorem ret_int {k : IntKind} {a b : Int} (h : a = b) : Ending.returned (.int k a) = .returned (.int k b) := by rw [h]

/-- digits as cells -/
def u32s (ds : List Nat) : List Value := ds.map fun (d : Nat) => Value.int .u32 (d : Int)
theorem u32s_append (xs ys : List Nat) : u32s (xs ++ ys) = u32s xs ++ u32s ys := by simp [u32s]
theorem u32s_one (d : Nat) : u32s [d] = [Value.int .u32 (d : Int)] := rfl
theorem u32s_len (xs : List Nat) : (u32s xs).length = xs.length := by simp [u32s]

/-- the slice v reads as the digits ds -/
def Row (w : World) (v : Value) (ds : List Nat) : Prop :=
  IsDig ds ∧ ∃ A c, v = .slice A ds.length c ∧ (0 < ds.length → ∃ b o, A = some ⟨b, o, none⟩ ∧ ∀ i, i < ds.length → w.cell? ⟨b, o + i, none⟩ = some (.int .u32 ((ds.getD i 0 : Nat) : Int))) ∧ ds.length ≤ c

theorem Row.dig {w : World} {v : Value} {ds : List Nat} (h : Row w v ds) : IsDig ds := h.1
theorem Row.since {w w' : World} {v : Value} {ds : List Nat} (h : Row w v ds) (k : Since w w') : Row w' v ds := by
  obtain ⟨h1, A, c, h2, h3, h6⟩ := h
  refine ⟨h1, A, c, h2, fun hl => ?_, h6⟩
  obtain ⟨b, o, h4, h5⟩ := h3 hl
  exact ⟨b, o, h4, fun i hi => (Below.cell k (World.block_lt_of_cell? _ _ (h5 i hi))).trans (h5 i hi)⟩
theorem Row.nil (w : World) : Row w (.slice none 0 0) [] := ⟨isDig_nil, none, 0, rfl, fun h => by simp at h, Nat.le_refl _⟩

theorem add_block (b o i : Nat) : (⟨b, o, none⟩ : Addr).add i = ⟨b, o + i, none⟩ := by
  unfold Addr.add; by_cases h : i = 0 <;> simp [h]

/-- a row that the call owns reads as its digits -/
theorem Row.own {w : World} {base : Nat} {e : TypeId} {v : Value} {n : Nat} {ds : List Nat} (hd : IsDig ds) (h : w.ownsRow base e 1 v n (u32s ds)) : Row w v ds := by
  have hl : ds.length = n := by have := h.1; simpa [u32s] using this
  subst hl
  refine ⟨hd, ?_⟩
  have hc := fun (g : Nat) => h.cells (g := g)
  rcases h.2 with ⟨h1, h2⟩ | ⟨g, cap, cur, h1, _, _, hcap, _⟩
  · exact ⟨none, 0, by rw [h1, h2], fun h => by omega, by omega⟩
  · refine ⟨some ⟨g, 0, none⟩, cap, h1, fun _ => ⟨g, 0, rfl, fun i hi => ?_⟩, hcap⟩
    have := hc g (by rw [h1]; rfl) i (.int .u32 ((ds.getD i 0 : Nat) : Int)) (by simp [u32s, hi, List.getD])
    rw [add_block] at this
    simpa using this

/-- ends with a slice that reads as the digits, and leaves what was there -/
def RetRow (ds : List Nat) (w : World) (e : Ending) (w' : World) : Prop := ∃ v, e = .returned v ∧ Row w' v ds ∧ Since w w'
/-- .. with a slice and a number -/
def RetRowErr (ds : List Nat) (x : Int) (w : World) (e : Ending) (w' : World) : Prop := ∃ v, e = .returned (.tuple #[v, .int .i64 x]) ∧ Row w' v ds ∧ Since w w'
end Go.Proofs.Ytfcinefmnigacaa
