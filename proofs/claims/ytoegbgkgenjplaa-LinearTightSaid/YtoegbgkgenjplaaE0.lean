/- Layer 9 (set): the ways in which the calls of a set end. -/
import Derived.Test.YtoegbgkgenjplaaEc
namespace Go.Proofs.Ytoegbgkgenjplaa.Zs
open Go.RowKit
set_option linter.unusedVariables false
set_option linter.unusedSimpArgs false
open Go.Proofs.Ytoegbgkgenjplaa.Dig Go.Proofs.Ytoegbgkgenjplaa.Lx Go.Proofs.Ytoegbgkgenjplaa.Tk Go.Proofs.Ytoegbgkgenjplaa.Ti
/-- ends in a value, or in none -/
def RetN (r : Option Int) (w : World) (e : Ending) (w' : World) : Prop := e = .returned (.tuple #[.int .i64 (r.getD 0), .bool r.isSome]) ∧ Since w w'
theorem RetN.no {r : Option Int} {w w' : World} (h : none = r) (k : Since w w') : RetN r w (.returned (.tuple #[.int .i64 0, .bool false])) w' := by subst h; exact ⟨rfl, k⟩
theorem RetN.yes {r : Option Int} {x : Int} {w w' : World} (h : some x = r) (k : Since w w') : RetN r w (.returned (.tuple #[.int .i64 x, .bool true])) w' := by subst h; exact ⟨rfl, k⟩
theorem right_at {v : Value} {l : List Rn} {w : World} (h : Sl 2 QR w v l) (hl : l.length ≤ 1100000) (hb : Bd l) {R : Bool} (hR : right l = R) (W : World) (k : Since w W) :
    Calls Try.prog 131 #[v] W (RetT R W) := by subst hR; exact right_any v l W (h.since stR k) hl hb
theorem right_full {l : List Rn} (h : right l = true) : full l := full_right h (Int.le_refl _)
/-- ends in a number -/
def RetI (z : Int) (w : World) (e : Ending) (w' : World) : Prop := e = .returned (.int .i64 z) ∧ Since w w'
theorem RetI.of {z z' : Int} {w w' : World} (h : z = z') (k : Since w w') : RetI z' w (.returned (.int .i64 z)) w' := ⟨by rw [h], k⟩
/-- ends in a range, or in none -/
def RetE (r : Option Rn) (w : World) (e : Ending) (w' : World) : Prop := e = .returned (.tuple #[.agg #[.int .i64 (r.getD (0, 0)).1, .int .i64 (r.getD (0, 0)).2], .bool r.isSome]) ∧ Since w w'
/-- ends in a row of the call's own -/
def RetW (w0 W : World) (v : Value) (ys : List Rn) (e : Ending) (w' : World) : Prop := ∃ A m c, e = .returned (.slice A m c) ∧ ys.length = m ∧ Rw w0 w' (.slice A m c) ys ∧ Keep v W w'
/-- ends in ranges -/
def RetS (ys : List Rn) (w : World) (e : Ending) (w' : World) : Prop := ∃ A m c, e = .returned (.slice A m c) ∧ ys.length = m ∧ Sl 2 QR w' (.slice A m c) ys ∧ Since w w'
theorem RetS.of {ys xs : List Rn} {w w' : World} {A : Option Addr} {m c : Nat} (h : xs = ys) (hm : xs.length = m) (k : Rw w w' (.slice A m c) xs) : RetS ys w (.returned (.slice A m c)) w' := by
  subst h; exact ⟨A, m, c, rfl, hm, k.sl, k.2⟩
theorem RetS.none {ys : List Rn} {w w' : World} (h : ys = []) (k : Since w w') : RetS ys w (.returned (.slice none 0 0)) w' := by
  subst h; exact ⟨_, 0, 0, rfl, rfl, Sl.nil _ _ _, k⟩
theorem owns_frozen {w : World} {base : Nat} {e : TypeId} {size : Nat} {v : Value} {n : Nat} {xs : List Value} (h : w.ownsRow base e size v n xs) {g : Nat} (hg : v.ownBlock = some g) (j : Nat) : w.frozen? ⟨g, j, none⟩ = false := by
  rcases h.2 with ⟨h1, -⟩ | ⟨a, cap, cur, h1, -, h3, -⟩
  · rw [h1] at hg; cases hg
  rw [h1] at hg
  cases hg
  simp [World.frozen?, h3]
/-- ends in ranges, in memory of the call's own -/
def RetF (ys : List Rn) (w : World) (e : Ending) (w' : World) : Prop := ∃ A m c, e = .returned (.slice A m c) ∧ ys.length = m ∧ Sl 2 QR w' (.slice A m c) ys ∧ Since w w' ∧ ∀ b, (Value.slice A m c).ownBlock = some b → w.heap.size ≤ b ∧ b < w'.heap.size ∧ ∀ j, w'.frozen? ⟨b, j, none⟩ = false
theorem RetF.of {ys xs : List Rn} {w w' : World} {A : Option Addr} {m c : Nat} (h : xs = ys) (hm : xs.length = m) (k : Rw w w' (.slice A m c) xs) : RetF ys w (.returned (.slice A m c)) w' := by
  subst h; exact ⟨A, m, c, rfl, hm, k.sl, k.2, fun b hb => ⟨(k.1.lt b hb).1, (k.1.lt b hb).2, owns_frozen k.1 hb⟩⟩
theorem RetF.none {ys : List Rn} {w w' : World} (h : ys = []) (k : Since w w') : RetF ys w (.returned (.slice none 0 0)) w' := by
  subst h; exact ⟨_, 0, 0, rfl, rfl, Sl.nil _ _ _, k, fun b hb => by simp [Value.ownBlock] at hb⟩
theorem RetF.s {ys : List Rn} {w w' : World} {e : Ending} (h : RetF ys w e w') : RetS ys w e w' := by
  obtain ⟨A, m, c, h1, h2, h3, h4, -⟩ := h; exact ⟨A, m, c, h1, h2, h3, h4⟩
theorem one_len (lo hi : Int) : (one lo hi).length ≤ 1 := by unfold one; split <;> simp
theorem app_len (xs : List Rn) (lo hi : Int) : (xs ++ one lo hi).length ≤ xs.length + 1 := by rw [List.length_append]; have := one_len lo hi; omega
theorem upto' {α : Type} {xs ys : List α} {n : Nat} (hx : n = xs.length) (hy : n = ys.length) (h : ∀ j, j < n → xs[j]? = ys[j]?) : xs = ys := by
  apply List.ext_getElem?
  intro j
  rcases Nat.lt_or_ge j n with hj | hj
  · exact h j hj
  · rw [List.getElem?_eq_none (by omega), List.getElem?_eq_none (by omega)]
end Go.Proofs.Ytoegbgkgenjplaa.Zs
