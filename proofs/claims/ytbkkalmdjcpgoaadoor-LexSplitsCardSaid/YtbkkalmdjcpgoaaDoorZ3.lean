/- Layer 3's words: numbers of a sign and digits, what the document says of them, and results of two cells that a call lays. No code is spoken of. -/
import Derived.Test.YtbkkalmdjcpgoaaDoorSRow
import Derived.Test.YtbkkalmdjcpgoaaDoorNatSpec
import Derived.Test.YtbkkalmdjcpgoaaDoorDec2
import Derived.Deep.RegionHeld3
namespace Go.Proofs.YtbkkalmdjcpgoaaDoor.Ref03
open Go.RowKit
set_option linter.unusedVariables false
open Go.Proofs.YtbkkalmdjcpgoaaDoor.Dig

/-- a number of a sign and digits, as a value -/
abbrev sv (neg : Bool) (m : Value) : Value := .agg #[.bool neg, m]
/-- may the number be -/
def srightB (neg : Bool) (ds : List Nat) : Bool := rightB ds && !(neg && decide (ds.length = 0))
/-- the sign that a number bears: none for nought -/
def signB (neg : Bool) (ds : List Nat) : Bool := neg && decide (0 < ds.length)
/-- ends with a number of the sign and the digits -/
def RetS (neg : Bool) (ds : List Nat) (w : World) (e : Ending) (w' : World) : Prop := ∃ A c, e = .returned (sv neg (.slice A ds.length c)) ∧ Row w' (.slice A ds.length c) ds ∧ Since w w'
def RetSErr (neg : Bool) (ds : List Nat) (x : Int) (w : World) (e : Ending) (w' : World) : Prop := ∃ A c, e = .returned (.tuple #[sv neg (.slice A ds.length c), .int .i64 x]) ∧ Row w' (.slice A ds.length c) ds ∧ Since w w'
/-- the number of a sign and digits -/
def sval (neg : Bool) (ds : List Nat) : Int := if neg = true then -(num ds : Int) else (num ds : Int)
/-- sign and digits of a number -/
def ngB (z : Int) : Bool := decide (z < 0)
def mag (z : Int) : List Nat := digs z.natAbs
theorem mag_len (z : Int) : (decide (0 < (mag z).length)) = decide (z ≠ 0) := by
  by_cases h : z = 0
  · subst h; rfl
  · have : z.natAbs ≠ 0 := by omega
    rw [mag, digs_pos this]; simp [h]
theorem sign_mag (z : Int) (b : Bool) (h : z ≠ 0 → b = ngB z) : signB b (mag z) = ngB z := by
  rw [signB, mag_len]
  by_cases h0 : z = 0
  · subst h0; simp [ngB]
  · rw [h h0]; simp [h0]
theorem hold2 {w W : World} {na nb : Bool} {ma mb : Value} {t : TypeId} {o : Obj} (h : Since (((w.alloc (.cells #[.bool na, ma] t)).alloc (.cells #[.bool nb, mb] t)).alloc o) W) :
    W.cell? ⟨w.heap.size, 0, none⟩ = some (.bool na) ∧ W.cell? ⟨w.heap.size, 1, none⟩ = some ma ∧ W.cell? ⟨w.heap.size + 1, 0, none⟩ = some (.bool nb) ∧ W.cell? ⟨w.heap.size + 1, 1, none⟩ = some mb := by
  refine ⟨?_, ?_, ?_, ?_⟩
  · rw [h.cell ⟨w.heap.size, 0, none⟩ (by simp <;> omega)]; go_simp
  · rw [h.cell ⟨w.heap.size, 1, none⟩ (by simp <;> omega)]; go_simp
  · rw [h.cell ⟨w.heap.size + 1, 0, none⟩ (by simp <;> omega)]; go_simp
  · rw [h.cell ⟨w.heap.size + 1, 1, none⟩ (by simp <;> omega)]; go_simp
/-- the third block is the result's -/
theorem keep3 {w W : World} {o1 o2 : Obj} {z0 z1 : Value} {t : TypeId} (h : Since (((w.alloc o1).alloc o2).alloc (.cells #[z0, z1] t)) W) :
    W.cell? ⟨w.heap.size + 1 + 1, 0, none⟩ = some z0 ∧ W.cell? ⟨w.heap.size + 1 + 1, 1, none⟩ = some z1 ∧ W.frozen? ⟨w.heap.size + 1 + 1, 0, none⟩ = false ∧ W.frozen? ⟨w.heap.size + 1 + 1, 1, none⟩ = false := by
  have h2 := keep2 h
  have e : ((w.alloc o1).alloc o2).heap.size = w.heap.size + 1 + 1 := by simp
  rw [e] at h2
  exact h2
theorem row_set3 {w W : World} {o1 o2 : Obj} {x : Bool} {A : Option Addr} {n c : Nat} {t : TypeId} {v : Value} {ds : List Nat} (h : Row W v ds)
    (hb : Since (((w.alloc o1).alloc o2).alloc (.cells #[.bool x, .slice A n c] t)) W) (u0 u1 : Value) : Row ((W.setCell ⟨w.heap.size + 1 + 1, 0, none⟩ u0).setCell ⟨w.heap.size + 1 + 1, 1, none⟩ u1) v ds := by
  have h2 := row_set2 h hb u0 u1
  have e : ((w.alloc o1).alloc o2).heap.size = w.heap.size + 1 + 1 := by simp
  rw [e] at h2
  exact h2
theorem sum_lt {a b k : Nat} (h1 : a < 4294967296 ^ k) (h2 : b < 4294967296 ^ k) : a + b < 4294967296 ^ (k + 1) := by
  have : (4294967296 : Nat) ^ (k + 1) = 4294967296 ^ k * 4294967296 := Nat.pow_succ ..
  omega
/-- a number, if it has not too many digits -/
def fitZ (z : Int) : (Bool × List Nat) × Int := if (mag z).length ≤ 256 then ((ngB z, mag z), 0) else ((false, []), 3)
def addZ (na : Bool) (xs : List Nat) (nb : Bool) (ys : List Nat) : (Bool × List Nat) × Int := if srightB na xs = true ∧ srightB nb ys = true then fitZ (sval na xs + sval nb ys) else ((false, []), 2)
def mulZ (na : Bool) (xs : List Nat) (nb : Bool) (ys : List Nat) : (Bool × List Nat) × Int := if srightB na xs = true ∧ srightB nb ys = true then fitZ (sval na xs * sval nb ys) else ((false, []), 2)
/-- ends with a number and an error -/
def RetZ (r : (Bool × List Nat) × Int) (w : World) (e : Ending) (w' : World) : Prop := RetSErr r.1.1 r.1.2 r.2 w e w'
theorem sright_right {neg : Bool} {ds : List Nat} (h : srightB neg ds = true) : rightB ds = true := by
  simp [srightB] at h; exact h.1
theorem keep2of {w W : World} {o : Obj} {z0 z1 : Value} {t : TypeId} (h : Since ((w.alloc o).alloc (.cells #[z0, z1] t)) W) :
    W.cell? ⟨w.heap.size + 1, 0, none⟩ = some z0 ∧ W.cell? ⟨w.heap.size + 1, 1, none⟩ = some z1 ∧ W.frozen? ⟨w.heap.size + 1, 0, none⟩ = false ∧ W.frozen? ⟨w.heap.size + 1, 1, none⟩ = false := by
  have h2 := keep2 h
  have e : (w.alloc o).heap.size = w.heap.size + 1 := by simp
  rw [e] at h2
  exact h2
theorem row_set2of {w W : World} {o1 : Obj} {x : Bool} {A : Option Addr} {n c : Nat} {t : TypeId} {v : Value} {ds : List Nat} (h : Row W v ds)
    (hb : Since ((w.alloc o1).alloc (.cells #[.bool x, .slice A n c] t)) W) (u0 u1 : Value) : Row ((W.setCell ⟨w.heap.size + 1, 0, none⟩ u0).setCell ⟨w.heap.size + 1, 1, none⟩ u1) v ds := by
  have h2 := row_set2 h hb u0 u1
  have e : (w.alloc o1).heap.size = w.heap.size + 1 := by simp
  rw [e] at h2
  exact h2
theorem since_set2of {w W : World} {o1 o2 : Obj} (h : Since ((w.alloc o1).alloc o2) W) (u0 u1 : Value) : Since w ((W.setCell ⟨w.heap.size + 1, 0, none⟩ u0).setCell ⟨w.heap.size + 1, 1, none⟩ u1) :=
  (((((Since.refl w).alloc _).alloc _).trans h).set (by show w.heap.size ≤ w.heap.size + 1; omega) _).set (by show w.heap.size ≤ w.heap.size + 1; omega) _
theorem sval_abs (neg : Bool) (ds : List Nat) : (sval neg ds).natAbs = num ds := by
  unfold sval; cases neg <;> simp
theorem add_len {na nb : Bool} {xs ys : List Nat} (dx : IsDig xs) (dy : IsDig ys) (lx : xs.length ≤ 1000) (ly : ys.length ≤ 1000) : (mag (sval na xs + sval nb ys)).length ≤ 1000000 := by
  obtain ⟨k, hk⟩ : ∃ k, k = 1000 := ⟨_, rfl⟩
  rw [← hk] at lx ly
  have h1 := Nat.lt_of_lt_of_le (num_lt dx) (Nat.pow_le_pow_right (n := 4294967296) (by omega) lx)
  have h2 := Nat.lt_of_lt_of_le (num_lt dy) (Nat.pow_le_pow_right (n := 4294967296) (by omega) ly)
  have h3 := Int.natAbs_add_le (sval na xs) (sval nb ys)
  rw [sval_abs, sval_abs] at h3
  exact Nat.le_trans (digs_len_le (k := k + 1) (Nat.lt_of_le_of_lt h3 (sum_lt h1 h2))) (by omega)
theorem mul_len {na nb : Bool} {xs ys : List Nat} (dx : IsDig xs) (dy : IsDig ys) (lx : xs.length ≤ 1000) (ly : ys.length ≤ 1000) : (mag (sval na xs * sval nb ys)).length ≤ 1000000 := by
  unfold mag
  rw [Int.natAbs_mul, sval_abs, sval_abs]
  have := Ref02.prod_len dx dy
  omega
theorem hold2of {w W : World} {na nb : Bool} {ma mb : Value} {t : TypeId} (h : Since ((w.alloc (.cells #[.bool na, ma] t)).alloc (.cells #[.bool nb, mb] t)) W) :
    W.cell? ⟨w.heap.size, 0, none⟩ = some (.bool na) ∧ W.cell? ⟨w.heap.size, 1, none⟩ = some ma ∧ W.cell? ⟨w.heap.size + 1, 0, none⟩ = some (.bool nb) ∧ W.cell? ⟨w.heap.size + 1, 1, none⟩ = some mb := by
  refine ⟨?_, ?_, ?_, ?_⟩
  · rw [h.cell ⟨w.heap.size, 0, none⟩ (by simp <;> omega)]; go_simp
  · rw [h.cell ⟨w.heap.size, 1, none⟩ (by simp <;> omega)]; go_simp
  · rw [h.cell ⟨w.heap.size + 1, 0, none⟩ (by simp <;> omega)]; go_simp
  · rw [h.cell ⟨w.heap.size + 1, 1, none⟩ (by simp <;> omega)]; go_simp
theorem sright_pos {ds : List Nat} (h : srightB true ds = true) : 0 < num ds := by
  have h1 := sright_right h
  have h2 : ds.length ≠ 0 := by
    intro h0
    have : ds = [] := List.eq_nil_of_length_eq_zero h0
    subst this; simp [srightB] at h
  exact num_pos (right_norm h1).2 h2
/-- is a number less than another one -/
def slessB (na : Bool) (xs : List Nat) (nb : Bool) (ys : List Nat) : Bool := decide (sval na xs < sval nb ys)
def cmpZ (na : Bool) (xs : List Nat) (nb : Bool) (ys : List Nat) : Int × Int := if srightB na xs = true ∧ srightB nb ys = true then (if sval na xs < sval nb ys then (-1, 0) else if sval nb ys < sval na xs then (1, 0) else (0, 0)) else (0, 2)
def negZ (na : Bool) (xs : List Nat) : (Bool × List Nat) × Int := if srightB na xs = true then ((ngB (-(sval na xs)), mag (-(sval na xs))), 0) else ((false, []), 2)
theorem hold1of {w W : World} {na : Bool} {ma : Value} {t : TypeId} {o : Obj} (h : Since ((w.alloc (.cells #[.bool na, ma] t)).alloc o) W) :
    W.cell? ⟨w.heap.size, 0, none⟩ = some (.bool na) ∧ W.cell? ⟨w.heap.size, 1, none⟩ = some ma := by
  refine ⟨?_, ?_⟩
  · rw [h.cell ⟨w.heap.size, 0, none⟩ (by simp <;> omega)]; go_simp
  · rw [h.cell ⟨w.heap.size, 1, none⟩ (by simp <;> omega)]; go_simp
def textZ (na : Bool) (xs : List Nat) : List UInt8 × Int := if srightB na xs = true then ((if na = true then 45 :: text (num xs) else text (num xs)), 0) else ([], 2)
theorem hold1 {w W : World} {na : Bool} {ma : Value} {t : TypeId} (h : Since (w.alloc (.cells #[.bool na, ma] t)) W) :
    W.cell? ⟨w.heap.size, 0, none⟩ = some (.bool na) ∧ W.cell? ⟨w.heap.size, 1, none⟩ = some ma := ⟨(keep2 h).1, (keep2 h).2.1⟩
/-- does the number fit the machine's own -/
def fitsI (z : Int) : Prop := -9223372036854775808 ≤ z ∧ z ≤ 9223372036854775807
instance (z : Int) : Decidable (fitsI z) := by unfold fitsI; exact inferInstance
def smallZ (na : Bool) (xs : List Nat) : Int × Int := if srightB na xs = true then (if fitsI (sval na xs) then (sval na xs, 0) else (0, 4)) else (0, 2)
theorem num_long {xs : List Nat} (dx : IsDig xs) (nx : Norm xs) (h : 2 < xs.length) : 18446744073709551616 ≤ num xs := by
  apply Decidable.byContradiction
  intro hn
  have h1 := digs_len_le (n := num xs) (k := 2) (by omega)
  rw [digs_num dx nx] at h1
  omega
/-- ends with a slice that is seen as one, and an error -/
def RetSlErr (r : List Nat × Int) (w : World) (e : Ending) (w' : World) : Prop := ∃ A c, e = .returned (.tuple #[.slice A r.1.length c, .int .i64 r.2]) ∧ Row w' (.slice A r.1.length c) r.1 ∧ Since w w'
theorem RetSlErr.of {r : List Nat × Int} {w : World} {e : Ending} {w' : World} (h : RetRowErr r.1 r.2 w e w') : RetSlErr r w e w' := by
  obtain ⟨v, rfl, hr, hs⟩ := h
  obtain ⟨h1, A, c, rfl, h3, h6⟩ := hr
  exact ⟨A, c, rfl, ⟨h1, A, c, rfl, h3, h6⟩, hs⟩
theorem drop_bytes (s : ByteArray) : (s.extract 1 s.size).data.toList = s.data.toList.drop 1 := by
  rw [ByteArray.data_extract, Array.toList_extract]
  simp only [List.extract]
  rw [List.take_of_length_le]
  rw [List.length_drop, Array.length_toList]; exact Nat.le_refl _
theorem row_same {w : World} {v : Value} {xs ys : List Nat} (hx : Row w v xs) (hy : Row w v ys) : xs = ys := by
  obtain ⟨_, A, c, rfl, h1, _⟩ := hx
  obtain ⟨_, B, d, e, h2, _⟩ := hy
  injection e with e1 hl e3
  subst e1
  apply List.ext_getElem (by omega)
  intro i hi hj
  obtain ⟨b, o, rfl, h3⟩ := h1 (by omega)
  obtain ⟨b', o', e', h4⟩ := h2 (by omega)
  cases e'
  have h5 := (h3 i hi).symm.trans (h4 i hj)
  simp [List.getD, List.getElem?_eq_getElem hi, List.getElem?_eq_getElem hj] at h5
  omega
open Classical in
/-- the number that a slice reads as -/
noncomputable def rdNum (w : World) (v : Value) : Nat := if h : ∃ ds, Row w v ds then num h.choose else 0
theorem rdNum_row {w : World} {v : Value} {ds : List Nat} (h : Row w v ds) : rdNum w v = num ds := by
  unfold rdNum
  rw [dif_pos ⟨ds, h⟩]
  rw [row_same (Exists.choose_spec (⟨ds, h⟩ : ∃ ds, Row w v ds)) h]
/-- two numbers on the way: they are right, and their common divisor is the one sought -/
abbrev OnWay (G : Nat) (us vs : List Nat) : Prop := rightB us = true ∧ rightB vs = true ∧ Nat.gcd (num us) (num vs) = G
theorem OnWay.next {G : Nat} {us vs : List Nat} (h : OnWay G us vs) (dv : IsDig vs) (h0 : vs.length ≠ 0) : OnWay G vs (digs (num us % num vs)) ∧ num (digs (num us % num vs)) < num vs := by
  obtain ⟨h1, h2, h3⟩ := h
  have hp := num_pos (right_norm h2).2 h0
  refine ⟨⟨h2, right_of ?_ (norm_digs _), ?_⟩, ?_⟩
  · exact Nat.le_trans (Nat.le_trans (digs_len_mono (Nat.le_of_lt (Nat.mod_lt _ hp))) (digs_len_num dv)) (right_norm h2).1
  · rw [num_digs, ← h3, Nat.gcd_comm (num us), Nat.gcd_rec (num vs) (num us), Nat.gcd_comm]
  · rw [num_digs]; exact Nat.mod_lt _ hp
theorem OnWay.last {G : Nat} {us vs : List Nat} (h : OnWay G us vs) (du : IsDig us) (h0 : vs.length = 0) : us = digs G ∧ (digs G).length ≤ 256 := by
  obtain ⟨h1, h2, h3⟩ := h
  obtain rfl := List.eq_nil_of_length_eq_zero h0
  have e : us = digs G := by
    rw [← h3, show num [] = 0 from rfl, Nat.gcd_zero_right, digs_num du (right_norm h1).2]
  exact ⟨e, by rw [← e]; exact (right_norm h1).1⟩
def gcdZ (na : Bool) (xs : List Nat) (nb : Bool) (ys : List Nat) : (Bool × List Nat) × Int := if srightB na xs = true ∧ srightB nb ys = true then ((false, digs (Nat.gcd (num xs) (num ys))), 0) else ((false, []), 2)
/-- ends with two numbers and an error -/
def RetQR (q r : Bool × List Nat) (x : Int) (w : World) (e : Ending) (w' : World) : Prop :=
  ∃ A c B d, e = .returned (.tuple #[sv q.1 (.slice A q.2.length c), sv r.1 (.slice B r.2.length d), .int .i64 x]) ∧ Row w' (.slice A q.2.length c) q.2 ∧ Row w' (.slice B r.2.length d) r.2 ∧ Since w w'
/-- the frame of a call that takes two numbers and gives two back -/
abbrev frame4 (w : World) (na nb : Bool) (ma mb : Value) (t : TypeId) : World :=
  (((w.alloc (.cells #[.bool na, ma] t)).alloc (.cells #[.bool nb, mb] t)).alloc (.cells #[.bool false, .slice none 0 0] t)).alloc (.cells #[.bool false, .slice none 0 0] t)
theorem frame4_since (w : World) (na nb : Bool) (ma mb : Value) (t : TypeId) : Since w (frame4 w na nb ma mb t) := ((((Since.refl w).alloc _).alloc _).alloc _).alloc _
theorem frame4_in {w W : World} {na nb : Bool} {ma mb : Value} {t : TypeId} (h : Since (frame4 w na nb ma mb t) W) :
    W.cell? ⟨w.heap.size, 0, none⟩ = some (.bool na) ∧ W.cell? ⟨w.heap.size, 1, none⟩ = some ma ∧ W.cell? ⟨w.heap.size + 1, 0, none⟩ = some (.bool nb) ∧ W.cell? ⟨w.heap.size + 1, 1, none⟩ = some mb :=
  hold2 ((since_alloc _ _).trans h)
theorem frame4_out {w W : World} {na nb : Bool} {ma mb : Value} {t : TypeId} (h : Since (frame4 w na nb ma mb t) W) :
    (W.cell? ⟨w.heap.size + 1 + 1, 0, none⟩ = some (.bool false) ∧ W.cell? ⟨w.heap.size + 1 + 1, 1, none⟩ = some (.slice none 0 0) ∧ W.frozen? ⟨w.heap.size + 1 + 1, 0, none⟩ = false ∧ W.frozen? ⟨w.heap.size + 1 + 1, 1, none⟩ = false) ∧
    (W.cell? ⟨w.heap.size + 1 + 1 + 1, 0, none⟩ = some (.bool false) ∧ W.cell? ⟨w.heap.size + 1 + 1 + 1, 1, none⟩ = some (.slice none 0 0) ∧ W.frozen? ⟨w.heap.size + 1 + 1 + 1, 0, none⟩ = false ∧ W.frozen? ⟨w.heap.size + 1 + 1 + 1, 1, none⟩ = false) := by
  refine ⟨keep3 ((since_alloc _ _).trans h), ?_⟩
  have h2 := keep2 h
  have e : (((w.alloc (.cells #[.bool na, ma] t)).alloc (.cells #[.bool nb, mb] t)).alloc (.cells #[.bool false, .slice none 0 0] t)).heap.size = w.heap.size + 1 + 1 + 1 := by simp
  rw [e] at h2
  exact h2
theorem frame4_blocks {w W : World} {na nb : Bool} {ma mb : Value} {t : TypeId} (h : Since (frame4 w na nb ma mb t) W) :
    W.heap[w.heap.size + 1 + 1]? = some (.cells #[.bool false, .slice none 0 0] t) ∧ W.heap[w.heap.size + 1 + 1 + 1]? = some (.cells #[.bool false, .slice none 0 0] t) := by
  have h1 := block_new ((since_alloc _ _).trans h)
  have h2 := block_new h
  have e1 : ((w.alloc (.cells #[.bool na, ma] t)).alloc (.cells #[.bool nb, mb] t)).heap.size = w.heap.size + 1 + 1 := by simp
  have e2 : (((w.alloc (.cells #[.bool na, ma] t)).alloc (.cells #[.bool nb, mb] t)).alloc (.cells #[.bool false, .slice none 0 0] t)).heap.size = w.heap.size + 1 + 1 + 1 := by simp
  rw [e1] at h1
  rw [e2] at h2
  exact ⟨h1, h2⟩
theorem row_set4 {w W : World} {na nb : Bool} {ma mb : Value} {t : TypeId} {v : Value} {ds : List Nat} (h : Row W v ds) (hb : Since (frame4 w na nb ma mb t) W) (u0 u1 u2 u3 : Value) :
    Row ((((W.setCell ⟨w.heap.size + 1 + 1, 0, none⟩ u0).setCell ⟨w.heap.size + 1 + 1, 1, none⟩ u1).setCell ⟨w.heap.size + 1 + 1 + 1, 0, none⟩ u2).setCell ⟨w.heap.size + 1 + 1 + 1, 1, none⟩ u3) v ds := by
  obtain ⟨h1, h2⟩ := frame4_blocks hb
  have hf : ∀ k, k ≠ w.heap.size + 1 + 1 → ((W.setCell ⟨w.heap.size + 1 + 1, 0, none⟩ u0).setCell ⟨w.heap.size + 1 + 1, 1, none⟩ u1).heap[k]? = W.heap[k]? := fun k hk => by
    rw [Below.heap_setCell _ _ _ _ (by simpa using hk), Below.heap_setCell _ _ _ _ (by simpa using hk)]
  have h3 := row_far h h1 hf
  refine row_far h3 (b := w.heap.size + 1 + 1 + 1) ((hf _ (by omega)).trans h2) fun k hk => ?_
  rw [Below.heap_setCell _ _ _ _ (by simpa using hk), Below.heap_setCell _ _ _ _ (by simpa using hk)]
theorem since_set4 {w W : World} {na nb : Bool} {ma mb : Value} {t : TypeId} (hb : Since (frame4 w na nb ma mb t) W) (u0 u1 u2 u3 : Value) :
    Since w ((((W.setCell ⟨w.heap.size + 1 + 1, 0, none⟩ u0).setCell ⟨w.heap.size + 1 + 1, 1, none⟩ u1).setCell ⟨w.heap.size + 1 + 1 + 1, 0, none⟩ u2).setCell ⟨w.heap.size + 1 + 1 + 1, 1, none⟩ u3) :=
  (((((frame4_since _ _ _ _ _ _).trans hb).set (by show w.heap.size ≤ w.heap.size + 1 + 1; omega) _).set (by show w.heap.size ≤ w.heap.size + 1 + 1; omega) _).set (by show w.heap.size ≤ w.heap.size + 1 + 1 + 1; omega) _).set (by show w.heap.size ≤ w.heap.size + 1 + 1 + 1; omega) _
/-- a number of a sign and a magnitude -/
def sgn (b : Bool) (n : Nat) : Int := if b = true then -(n : Int) else (n : Int)
theorem floorPos {a b q r : Int} (hb : 0 < b) (h : r + b * q = a) (h1 : 0 ≤ r) (h2 : r < b) : a.fdiv b = q ∧ a.fmod b = r := by
  have := (Int.ediv_emod_unique (a := a) (q := q) (r := r) hb).2 ⟨h, h1, h2⟩
  rw [Int.fdiv_eq_ediv_of_nonneg _ (by omega), Int.fmod_eq_emod_of_nonneg _ (by omega)]
  exact this
theorem floorNeg {a b q r : Int} (hb : b < 0) (h : r + b * q = a) (h1 : r ≤ 0) (h2 : b < r) : a.fdiv b = q ∧ a.fmod b = r := by
  have e : a.fdiv b = q := by
    have := (floorPos (a := -a) (b := -b) (q := q) (r := -r) (by omega) (by rw [Int.neg_mul]; omega) (by omega) (by omega)).1
    rwa [Int.neg_fdiv_neg] at this
  refine ⟨e, ?_⟩
  rw [Int.fmod_def, e]; omega
theorem floorSg {a : Int} {b : Bool} {Y : Nat} {q r : Int} (hY : 0 < Y) (h : (if b = true then -r else r) + (sgn b Y) * q = a) (h1 : 0 ≤ r) (h2 : r < Y) : a.fdiv (sgn b Y) = q ∧ a.fmod (sgn b Y) = (if b = true then -r else r) := by
  cases b
  · exact floorPos (by simp [sgn]; omega) h (by simpa using h1) (by simpa [sgn] using h2)
  · exact floorNeg (by simp [sgn]; omega) h (by simp; omega) (by simp [sgn]; omega)
theorem nat_parts (X Y : Nat) : ((Y : Int) * ((X / Y : Nat) : Int)) + ((X % Y : Nat) : Int) = X := by
  rw [← Int.natCast_mul, ← Int.natCast_add, Nat.div_add_mod]
theorem floor_same {b : Bool} {X Y : Nat} (hY : 0 < Y) : (sgn b X).fdiv (sgn b Y) = ((X / Y : Nat) : Int) ∧ (sgn b X).fmod (sgn b Y) = sgn b (X % Y) := by
  have h := nat_parts X Y
  have h2 := Nat.mod_lt X hY
  obtain ⟨q, hq⟩ : ∃ q, q = X / Y := ⟨_, rfl⟩
  obtain ⟨r, hr⟩ : ∃ r, r = X % Y := ⟨_, rfl⟩
  rw [← hq, ← hr] at h
  rw [← hr] at h2
  rw [← hq, ← hr]
  clear hq hr
  refine floorSg (r := (r : Int)) hY ?_ (by omega) (by omega)
  cases b <;> simp only [sgn, if_true, Bool.false_eq_true, if_false, Int.neg_mul] <;> omega
theorem floor_diff0 {a b : Bool} {X Y : Nat} (hY : 0 < Y) (hab : (a == b) = false) (h0 : X % Y = 0) : (sgn a X).fdiv (sgn b Y) = -((X / Y : Nat) : Int) ∧ (sgn a X).fmod (sgn b Y) = 0 := by
  have h := nat_parts X Y
  rw [h0] at h
  obtain ⟨q, hq⟩ : ∃ q, q = X / Y := ⟨_, rfl⟩
  rw [← hq] at h
  rw [← hq]
  clear hq
  have := floorSg (a := sgn a X) (b := b) (q := -(q : Int)) (r := 0) hY (by
    cases a <;> cases b <;> simp at hab <;> simp only [sgn, if_true, Bool.false_eq_true, if_false, Int.neg_mul, Int.mul_neg] <;> omega) (by omega) (by omega)
  refine ⟨this.1, this.2.trans ?_⟩
  cases b <;> simp
theorem floor_diff1 {a b : Bool} {X Y : Nat} (hY : 0 < Y) (hab : (a == b) = false) (h0 : X % Y ≠ 0) : (sgn a X).fdiv (sgn b Y) = -((X / Y + 1 : Nat) : Int) ∧ (sgn a X).fmod (sgn b Y) = sgn b (Y - X % Y) := by
  have h := nat_parts X Y
  have h2 := Nat.mod_lt X hY
  obtain ⟨q, hq⟩ : ∃ q, q = X / Y := ⟨_, rfl⟩
  obtain ⟨r, hr⟩ : ∃ r, r = X % Y := ⟨_, rfl⟩
  rw [← hq, ← hr] at h
  rw [← hr] at h0 h2
  rw [← hq, ← hr]
  clear hq hr
  have e : ((Y - r : Nat) : Int) = (Y : Int) - r := by omega
  have := floorSg (a := sgn a X) (b := b) (q := -((q + 1 : Nat) : Int)) (r := ((Y - r : Nat) : Int)) hY (by
    rw [e]
    cases a <;> cases b <;> simp at hab <;> simp only [sgn, if_true, Bool.false_eq_true, if_false, Int.neg_mul, Int.mul_neg, Int.natCast_add, Int.mul_add, Int.natCast_one, Int.mul_one] <;> omega) (by omega) (by omega)
  exact this
/-- the quotient rounded down, and the rest, which bears the divisor's sign -/
def divZ (na : Bool) (xs : List Nat) (nb : Bool) (ys : List Nat) : ((Bool × List Nat) × (Bool × List Nat)) × Int :=
  if (srightB na xs = true ∧ srightB nb ys = true) ∧ ys.length ≠ 0 then
    (((ngB ((sval na xs).fdiv (sval nb ys)), mag ((sval na xs).fdiv (sval nb ys))), (ngB ((sval na xs).fmod (sval nb ys)), mag ((sval na xs).fmod (sval nb ys)))), 0)
  else (((false, []), (false, [])), 2)
theorem ng_sgn (b : Bool) (n : Nat) : signB b (digs n) = ngB (sgn b n) ∧ digs n = mag (sgn b n) := by
  have e : mag (sgn b n) = digs n := by unfold mag sgn; cases b <;> simp
  refine ⟨?_, e.symm⟩
  have h := sign_mag (sgn b n) b (fun hz => by unfold ngB sgn at *; cases b <;> simp at hz ⊢ <;> omega)
  rwa [e] at h
end Go.Proofs.YtbkkalmdjcpgoaaDoor.Ref03
