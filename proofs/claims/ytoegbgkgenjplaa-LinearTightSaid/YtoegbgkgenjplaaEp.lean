/- Layer 9 (set): an append of ranges, wherever they lie. -/
import Derived.Test.YtoegbgkgenjplaaE0
namespace Go.Proofs.Ytoegbgkgenjplaa.Zs
open Go.RowKit
set_option linter.unusedVariables false
set_option linter.unusedSimpArgs false
open Go.Proofs.Ytoegbgkgenjplaa.Dig Go.Proofs.Ytoegbgkgenjplaa.Lx Go.Proofs.Ytoegbgkgenjplaa.Tk Go.Proofs.Ytoegbgkgenjplaa.Ti
theorem rws_cells {w : World} {l : List Rn} {cs : List Value} (h : Rws 2 (QR w) l cs) : cs = rcells l := by
  induction h with
  | nil => rfl
  | snoc h k l ih => rw [rcells_snoc, ih]; unfold QR at k; rw [k]
theorem rcells_append (a c : List Rn) : rcells (a ++ c) = rcells a ++ rcells c := by simp [rcells]
set_option maxRecDepth 20000 in
theorem wp_appIn {w0 w : World} {v : Value} {xs ys : List Rn} {B : Option Addr} {m d : Nat} (H : Rw w0 w v xs) (hl : xs.length ≤ 9000000) (hy : Sl 2 QR w (.slice B m d) ys) (hm : m ≤ 9000000)
    {o : Oper} {a : Act} {K : Act → World → Prop} {Q : Exit → Act → World → Prop} (s x : Operand)
    (ho : o.op = .call { callee := .builtin .append, args := #[s, x], argTypes := #[50, 50] }) (hs : a.eval s = v) (hx : a.eval x = .slice B m d)
    (h : ∀ A c w', Rw w0 w' (.slice A (xs.length + m) c) (xs ++ ys) → Keep v w w' → K (a.put o.dst (.slice A (xs.length + m) c)) w') : o.wp Try.prog a w K Q := by
  obtain ⟨i0, hi, hz0, hz1, hz2⟩ := info_parts info_range
  have hsz := H.2.size
  obtain ⟨cs, hcs, hmy, hA⟩ := hy.rows
  have hcl := hcs.len
  obtain rfl := rws_cells hcs
  have fin : ∀ v' w', w'.ownsRow w0.heap.size 49 2 v' (xs.length + m) (rcells xs ++ rcells ys) → w.grownBy w' v.ownBlock → K (a.put o.dst v') w' := by
    intro v' w' h2 h3
    obtain ⟨A, c', rfl⟩ := owns_slice h2
    refine h A c' w' ⟨?_, ?_⟩ (.of h3)
    · rw [rcells_append, List.length_append, ← hmy]; exact h2
    · exact Below.grown H.2 h3 hsz (fun g hg => (H.1.lt g hg).1)
  cases B with
  | none =>
    obtain rfl : m = 0 := by
      rcases hA with h | ⟨b, o, e, -⟩
      · exact h
      · cases e
    have hd : rcells ys = [] := List.eq_nil_of_length_eq_zero (by rw [hcl, ← hmy])
    have hrun := Go.Proofs.Ytoegbgkgenjplaa.Tk.run_append_nil (P := Try.prog) (ty := o.type) Try.underlying50 hi H.1 d
    unfold Oper.wp execOp
    simp only [ho, resolve, invoke, builtin, Sem.run_bind, Sem.run_pure, Result.andThen_ok, List.map_toArray, List.map_cons, List.map_nil, hs, hx, hrun]
    exact fin v w (by rw [hd, List.append_nil]; exact H.1) (World.grownBy.refl w _)
  | some ad =>
    refine wp_append_at w s x 50 ho w0.heap.size 49 i0 (.agg #[.int .i64 0, .int .i64 0]) 2 16 Try.underlying50 hi hz0 hz1 hz2 rfl (by decide) v xs.length (rcells xs) hs H.1 ad m d (rcells ys) hx (by rw [hcl, ← hmy]) ?_ ?_ ?_ ?_ hsz
      fun v' w' h2 h3 h4 => fin v' w' h2 h3
    · intro j u hj
      rcases hA with rfl | ⟨b, o, e1, e2⟩
      · have hd : rcells ys = [] := List.eq_nil_of_length_eq_zero (by rw [hcl, ← hmy])
        rw [hd] at hj
        simp at hj
      · injection e1 with e1
        subst e1
        rw [Go.Proofs.Ytoegbgkgenjplaa.Tk.add_at]
        exact e2 j u hj
    · exact (rcells_rws w ys).one fun x u hu y hy => by
        unfold QR at hu; subst hu
        simp only [List.mem_cons, List.not_mem_nil, or_false] at hy
        rcases hy with rfl | rfl <;> rfl
    · unfold maxLen; omega
    · omega
theorem wpList_appIn {w0 w : World} {v : Value} {xs ys : List Rn} {B : Option Addr} {m d : Nat} (H : Rw w0 w v xs) (hl : xs.length ≤ 9000000) (hy : Sl 2 QR w (.slice B m d) ys) (hm : m ≤ 9000000)
    {ops : Array Oper} {rest : List Oper} {o : Oper} {a : Act} {Q : Exit → Act → World → Prop} (hw : Region.wanted o (yielded ops a.tmps) = true) (s x : Operand)
    (ho : o.op = .call { callee := .builtin .append, args := #[s, x], argTypes := #[50, 50] }) (hs : a.eval s = v) (hx : a.eval x = .slice B m d)
    (h : ∀ A c w', Rw w0 w' (.slice A (xs.length + m) c) (xs ++ ys) → Keep v w w' → wpList Try.prog ops Q rest (a.put o.dst (.slice A (xs.length + m) c)) w') : wpList Try.prog ops Q (o :: rest) a w :=
  BigFrame.wpList_want hw fun K hK => wp_appIn H hl hy hm s x ho hs hx fun A c w' h1 h2 => hK _ _ (h A c w' h1 h2)
/-- a block ahead of a row's base stays while the row turns -/
theorem bx_grown {base : Nat} {w w' : World} {v : Value} {n : Nat} {cs : List Value} {b : Nat} {us : Array Value} {t : TypeId} (H : w.ownsRow base 49 2 v n cs) (h : Bx w b us t) (hb : b < base) (k : w.grownBy w' v.ownBlock) : Bx w' b us t :=
  Keep.of k b us t h fun e => by have := (H.lt _ e).1; omega
end Go.Proofs.Ytoegbgkgenjplaa.Zs
