/- A block of 32-bit digits that the call itself owns, written in place. -/
import Derived.Test.YtmnankcllblgjaaN2L
import Derived.Test.YtmnankcllblgjaaRow
import Derived.Test.YtmnankcllblgjaaRef02d
import Derived.Deep.OwnRows
namespace Go.Proofs.Ytmnankcllblgjaa
open Go.RowKit
set_option linter.unusedVariables false
open Go.Proofs.Ytmnankcllblgjaa.Dig

/-- block b holds just these digits, and may be written -/
def Blk (w : World) (b : Nat) (ds : List Nat) : Prop := IsDig ds ∧ w.rowIs b 59 ds.length (fun i => .int .u32 ((ds.getD i 0 : Nat) : Int))
theorem Blk.dig {w : World} {b : Nat} {ds : List Nat} (h : Blk w b ds) : IsDig ds := h.1
theorem Blk.lt {w : World} {b : Nat} {ds : List Nat} (h : Blk w b ds) : b < w.heap.size := h.2.lt
theorem Blk.cell {w : World} {b i : Nat} {ds : List Nat} (h : Blk w b ds) (hi : i < ds.length) : w.cell? ⟨b, i, none⟩ = some (.int .u32 ((ds.getD i 0 : Nat) : Int)) := h.2.cell hi
theorem Blk.frozen {w : World} {b : Nat} {ds : List Nat} (h : Blk w b ds) (i : Nat) : w.frozen? ⟨b, i, none⟩ = false := h.2.frozen i
theorem Blk.set {w : World} {b i d : Nat} {ds : List Nat} (h : Blk w b ds) (hi : i < ds.length) (hd : d < 4294967296) : Blk (w.setCell ⟨b, i, none⟩ (.int .u32 (d : Int))) b (ds.set i d) := by
  refine ⟨isDig_set h.1 hd, ?_⟩
  rw [List.length_set]
  refine (h.2.set i _).congr fun j hj => ?_
  by_cases e : j = i
  · subst e; rw [if_pos rfl, getD_set_self hi]
  · rw [if_neg e, getD_set_other (Ne.symm e)]
theorem Blk.setOther {w : World} {b : Nat} {ds : List Nat} (h : Blk w b ds) {a : Addr} (ha : b ≠ a.block) (u : Value) : Blk (w.setCell a u) b ds := ⟨h.1, h.2.setOther ha u⟩
theorem Blk.alloc {w : World} {b : Nat} {ds : List Nat} (h : Blk w b ds) (o : Obj) : Blk (w.alloc o) b ds := ⟨h.1, h.2.alloc o⟩
theorem Blk.drewN {w : World} {b : Nat} {ds : List Nat} (h : Blk w b ds) (n : Nat) : Blk (w.drewN n) b ds := h
theorem Blk.drew {w : World} {b : Nat} {ds : List Nat} (h : Blk w b ds) : Blk w.drew b ds := h
theorem Blk.grown {w w' : World} {b : Nat} {ds : List Nat} {row : Option Nat} (h : Blk w b ds) (k : w.grownBy w' row) (hb : some b ≠ row) : Blk w' b ds := ⟨h.1, h.2.of_block (k.block b h.lt hb)⟩
theorem Blk.since {w w' : World} {b : Nat} {ds : List Nat} (h : Blk w b ds) (k : Since w w') : Blk w' b ds := ⟨h.1, h.2.of_block (k.block b h.lt)⟩
theorem Blk.row {w : World} {b o n c : Nat} {ds : List Nat} (h : Blk w b ds) (hl : o + n ≤ ds.length) (hc : n ≤ c) : Row w (.slice (some ⟨b, o, none⟩) n c) ((ds.drop o).take n) := by
  have e : ((ds.drop o).take n).length = n := by simp; omega
  refine ⟨isDig_take (isDig_drop h.1 o) n, some ⟨b, o, none⟩, c, by rw [e], fun _ => ⟨b, o, rfl, fun i hi => ?_⟩, by rw [e]; exact hc⟩
  rw [e] at hi
  rw [h.cell (by omega), drop_take_getD hi]
theorem Blk.row_all {w : World} {b n c : Nat} {ds : List Nat} (h : Blk w b ds) (hl : ds.length = n) (hc : n ≤ c) : Row w (.slice (some ⟨b, 0, none⟩) n c) ds := by
  subst hl
  have := h.row (o := 0) (n := ds.length) (c := c) (by omega) hc
  rwa [List.drop_zero, List.take_length] at this
theorem Blk.made (w : World) (n : Nat) : Blk (w.alloc (.cells (madeCells #[.int .u32 0] n) 59)) w.heap.size (List.replicate n 0) := by
  refine ⟨isDig_noughts n, ?_⟩
  rw [List.length_replicate]
  refine (World.rowIs_made w (.int .u32 0) n 59).congr fun i hi => ?_
  simp [List.getD, hi]
theorem since_made (w : World) (c : Array Value) (e : TypeId) : Since w (w.alloc (.cells c e)) := (Since.refl w).alloc _

/-- the make of n digits, at every world -/
theorem make_digits (n : Nat) (hn : n ≤ 1000000) (W : World) : (Instr.makeSlice 22 (.int .i64 (n : Int)) (.int .i64 (n : Int))).run Try.prog W = .ok (.slice (some ⟨W.heap.size, 0, none⟩) n n) (W.alloc (.cells (madeCells #[.int .u32 0] n) 59)) := by
  obtain ⟨i0, hi, hz0, hz1, hz2⟩ := info_parts Ref02.info_u32
  have h := run_make (P := Try.prog) W 22 59 i0 (.int .u32 0) Try.underlying22 hi hz0 .i64 .i64 n n (by omega) (by omega) (by rw [hz2]; omega) (by omega)
  rw [hz1] at h
  simpa [Value.cells] using h

/-- a slice that does not lie in block g -/
def Far (g : Nat) (v : Value) : Prop := ∀ b o n c, v = .slice (some ⟨b, o, none⟩) n c → 0 < n → b ≠ g
theorem Far.of {g : Nat} {w : World} {v : Value} {ds : List Nat} (h : Row w v ds) (hg : w.heap.size ≤ g) : Far g v := by
  rintro b o n c rfl hn rfl
  obtain ⟨_, A, c', e, hc, _⟩ := h
  injection e with e1 e2 e3
  obtain ⟨b', o', e4, hcc⟩ := hc (by omega)
  rw [e4] at e1
  injection e1 with e1
  injection e1 with e1
  have := World.block_lt_of_cell? _ _ (hcc 0 (by omega))
  simp at this
  omega
theorem Far.blk {g b o n c : Nat} (h : b ≠ g) : Far g (.slice (some ⟨b, o, none⟩) n c) := by
  rintro b' o' n' c' e _ rfl
  injection e with e1
  injection e1 with e1
  injection e1 with e1
  exact h e1
theorem Row.grown {w w' : World} {v : Value} {ds : List Nat} {g : Nat} (h : Row w v ds) (hf : Far g v) (k : w.grownBy w' (some g)) : Row w' v ds := by
  obtain ⟨h1, A, c, rfl, h3, h6⟩ := h
  refine ⟨h1, A, c, rfl, fun hl => ?_, h6⟩
  obtain ⟨b, o, rfl, h5⟩ := h3 hl
  have hb := hf b o _ _ rfl hl
  exact ⟨b, o, rfl, fun i hi => (World.cell?_of_block (w := w) (k.block b (World.block_lt_of_cell? _ _ (h5 i hi)) (fun e => hb (by injection e)))).trans (h5 i hi)⟩

/-! only block g has turned, and what is new -/
theorem only_refl (w : World) (g : Nat) : w.grownBy w (some g) := World.grownBy.refl w _
theorem only_trans {a b c : World} {g : Nat} (h : a.grownBy b (some g)) (k : b.grownBy c (some g)) : a.grownBy c (some g) :=
  ⟨k.os.trans h.os, k.tape.trans h.tape, k.output.trans h.output, Nat.le_trans h.size k.size, fun i hi hn => (k.block i (Nat.lt_of_lt_of_le hi h.size) hn).trans (h.block i hi hn)⟩
theorem only_drewN {a w : World} {g : Nat} (h : a.grownBy w (some g)) (n : Nat) : a.grownBy (w.drewN n) (some g) := ⟨h.os, h.tape, h.output, h.size, h.block⟩
theorem only_drew {a w : World} {g : Nat} (h : a.grownBy w (some g)) : a.grownBy w.drew (some g) := ⟨h.os, h.tape, h.output, h.size, h.block⟩
theorem only_set {a w : World} {g i : Nat} (h : a.grownBy w (some g)) (u : Value) : a.grownBy (w.setCell ⟨g, i, none⟩ u) (some g) :=
  ⟨h.os, h.tape, h.output, by simpa [World.setCell] using h.size, fun k hk hne => (Below.heap_setCell w ⟨g, i, none⟩ u k (fun e => hne (by rw [e]))).trans (h.block k hk hne)⟩
theorem only_since {a w w' : World} {g : Nat} (h : Since a w) (k : w.grownBy w' (some g)) (hg : a.heap.size ≤ g) : Since a w' :=
  Below.grown h k h.size (fun j hj => by injection hj with hj; omega)
theorem only_of_since {w w' : World} {g : Nat} (h : Since w w') : w.grownBy w' (some g) := ⟨h.os, h.tape, h.output, h.size, fun i hi _ => h.block i hi⟩
theorem Row.at_ {w : World} {b o n c k : Nat} {ds : List Nat} (h : Row w (.slice (some ⟨b, o, none⟩) n c) ds) (hk : k < n) : w.cell? ⟨b, o + k, none⟩ = some (.int .u32 ((ds.getD k 0 : Nat) : Int)) := by
  obtain ⟨_, A, c', e, hc, _⟩ := h
  injection e with e1 e2 e3
  obtain ⟨b', o', e4, hcc⟩ := hc (by omega)
  rw [e4] at e1
  injection e1 with e1
  injection e1 with e1 e5
  subst e1 e5
  exact hcc k (by omega)
theorem cell_grown {W W' : World} {a : Addr} {v : Value} {g : Nat} (h : W.cell? a = some v) (k : W.grownBy W' (some g)) (hne : a.block ≠ g) : W'.cell? a = some v :=
  (World.cell?_of_block (w := W) (k.block a.block (World.block_lt_of_cell? _ _ h) (fun e => hne (by injection e)))).trans h
theorem cell_far {W : World} {a : Addr} {v : Value} {g k : Nat} (h : W.cell? a = some v) (hne : a.block ≠ g) (u : Value) : (W.setCell ⟨g, k, none⟩ u).cell? a = some v :=
  (World.cell?_setCell_other W ⟨g, k, none⟩ a u (fun e => hne (by rw [← e]))).trans h
end Go.Proofs.Ytmnankcllblgjaa
