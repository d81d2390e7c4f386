/- Layer 9 (set): an append of ranges, wherever they lie. -/
import Derived.Test.YtakfabaocgbbmaaE0
import Derived.Test.YtakfabaocgbbmaaAp6
namespace Go.Proofs.Ytakfabaocgbbmaa.Zs
open Go.RowKit
set_option linter.unusedVariables false
set_option linter.unusedSimpArgs false
open Go.Proofs.Ytakfabaocgbbmaa.Dig Go.Proofs.Ytakfabaocgbbmaa.Lx Go.Proofs.Ytakfabaocgbbmaa.Tk Go.Proofs.Ytakfabaocgbbmaa.Ti

theorem rws_cells {w : World} {l : List Rn} {cs : List Value} (h : Rws 2 (QR w) l cs) : cs = rcells l := by
  induction h with
  | nil => rfl
  | snoc h k l ih => rw [rcells_snoc, ih]; unfold QR at k; rw [k]
theorem rcells_append (a c : List Rn) : rcells (a ++ c) = rcells a ++ rcells c := by simp [rcells]
set_option maxRecDepth 20000 in
theorem wp_appIn {w0 w : World} {v : Value} {xs ys : List Rn} {B : Option Addr} {m d : Nat} (H : Rw w0 w v xs) (hl : xs.length ≤ 9000000) (hy : Sl 2 QR w (.slice B m d) ys) (hm : m ≤ 9000000)
    {o : Oper} {a : Act} {K : Act → World → Prop} {Q : Exit → Act → World → Prop} (s x : Operand)
    (ho : o.op = .call { callee := .builtin .append, args := #[s, x], argTypes := #[46, 46] }) (hs : a.eval s = v) (hx : a.eval x = .slice B m d)
    (h : ∀ A c w', Rw w0 w' (.slice A (xs.length + m) c) (xs ++ ys) → Keep v w w' → K (a.put o.dst (.slice A (xs.length + m) c)) w') : o.wp Try.prog a w K Q := by
  obtain ⟨i0, hi, hz0, hz1, hz2⟩ := info_parts info_range
  have hsz := H.2.size
  obtain ⟨cs, hcs, hmy, hA⟩ := hy.rows
  have hcl := hcs.len
  obtain rfl := rws_cells hcs
  have fin : ∀ v' w', w'.ownsRow w0.heap.size 36 2 v' (xs.length + m) (rcells xs ++ rcells ys) → w.grownBy w' v.ownBlock → K (a.put o.dst v') w' := by
    intro v' w' h2 h3
    obtain ⟨A, c', rfl⟩ := owns_slice h2
    refine h A c' w' ⟨?_, ?_⟩ (.of h3)
    · rw [rcells_append, List.length_append, ← hmy]; exact h2
    · exact Below.grown H.2 h3 hsz (fun g hg => (H.1.lt g hg).1)
  cases B with
  | none =>
    obtain rfl : m = 0 := by
      rcases hA with h | ⟨b, o, e, -⟩
      · exact h
      · cases e
    have hd : rcells ys = [] := List.eq_nil_of_length_eq_zero (by rw [hcl, ← hmy])
    have hrun := Go.Proofs.Ytakfabaocgbbmaa.Tk.run_append_nil (P := Try.prog) (ty := o.type) Try.underlying46 hi H.1 d
    unfold Oper.wp execOp
    simp only [ho, resolve, invoke, builtin, Sem.run_bind, Sem.run_pure, Result.andThen_ok, List.map_toArray, List.map_cons, List.map_nil, hs, hx, hrun]
    exact fin v w (by rw [hd, List.append_nil]; exact H.1) (World.grownBy.refl w _)
  | some ad =>
    refine wp_append_at w s x 46 ho w0.heap.size 36 i0 (.agg #[.int .i64 0, .int .i64 0]) 2 16 Try.underlying46 hi hz0 hz1 hz2 rfl (by decide) v xs.length (rcells xs) hs H.1 ad m d (rcells ys) hx (by rw [hcl, ← hmy]) ?_ ?_ ?_ ?_ hsz
      fun v' w' h2 h3 h4 => fin v' w' h2 h3
    · intro j u hj
      rcases hA with rfl | ⟨b, o, e1, e2⟩
      · have hd : rcells ys = [] := List.eq_nil_of_length_eq_zero (by rw [hcl, ← hmy])
        rw [hd] at hj
        simp at hj
      · injection e1 with e1
        subst e1
        rw [Go.Proofs.Ytakfabaocgbbmaa.Tk.add_at]
        exact e2 j u hj
    · exact (rcells_rws w ys).one fun x u hu y hy => by
        unfold QR at hu; subst hu
        simp only [List.mem_cons, List.not_mem_nil, or_false] at hy
        rcases hy with rfl | rfl <;> rfl
    · unfold maxLen; omega
    · omega
theorem wpList_appIn {w0 w : World} {v : Value} {xs ys : List Rn} {B : Option Addr} {m d : Nat} (H : Rw w0 w v xs) (hl : xs.length ≤ 9000000) (hy : Sl 2 QR w (.slice B m d) ys) (hm : m ≤ 9000000)
    {ops : Array Oper} {rest : List Oper} {o : Oper} {a : Act} {Q : Exit → Act → World → Prop} (hw : Region.wanted o (yielded ops a.tmps) = true) (s x : Operand)
    (ho : o.op = .call { callee := .builtin .append, args := #[s, x], argTypes := #[46, 46] }) (hs : a.eval s = v) (hx : a.eval x = .slice B m d)
    (h : ∀ A c w', Rw w0 w' (.slice A (xs.length + m) c) (xs ++ ys) → Keep v w w' → wpList Try.prog ops Q rest (a.put o.dst (.slice A (xs.length + m) c)) w') : wpList Try.prog ops Q (o :: rest) a w :=
  BigFrame.wpList_want hw fun K hK => wp_appIn H hl hy hm s x ho hs hx fun A c w' h1 h2 => hK _ _ (h A c w' h1 h2)
/-- an append of one range, to a row begun wherever -/
theorem wp_appb {base : Nat} {w : World} {v : Value} {n : Nat} {xs : List Rn} (H : w.ownsRow base 36 2 v n (rcells xs)) (hb : base ≤ w.heap.size) (hn : xs.length = n) (hl : n ≤ 9000000) (r : Rn) (g d : Nat) (hbx : Bx w g #[.int .i64 r.1, .int .i64 r.2] 36)
    {o : Oper} {a : Act} {K : Act → World → Prop} {Q : Exit → Act → World → Prop} (s x : Operand)
    (ho : o.op = .call { callee := .builtin .append, args := #[s, x], argTypes := #[46, 46] }) (hs : a.eval s = v) (hx : a.eval x = .slice (some ⟨g, 0, none⟩) 1 d)
    (h : ∀ A c w', w'.ownsRow base 36 2 (.slice A (n + 1) c) (n + 1) (rcells (xs ++ [r])) → w.grownBy w' v.ownBlock → K (a.put o.dst (.slice A (n + 1) c)) w') : o.wp Try.prog a w K Q := by
  obtain ⟨i0, hi, hz0, hz1, hz2⟩ := info_parts info_range
  obtain ⟨h0, h1⟩ := hbx.two
  refine wp_append_at w s x 46 ho base 36 i0 (.agg #[.int .i64 0, .int .i64 0]) 2 16 Try.underlying46 hi hz0 hz1 hz2 rfl (by decide) v n (rcells xs) hs H ⟨g, 0, none⟩ 1 d [.int .i64 r.1, .int .i64 r.2] hx rfl ?_ ?_ ?_ ?_ hb fun v' w' h2 h3 h4 => ?_
  · intro j u hj
    rw [add_at, Nat.zero_add]
    match j, hj with
    | 0, hj => cases hj; exact h0
    | 1, hj => cases hj; exact h1
    | j + 2, hj => simp at hj
  · intro u hu; simp at hu; rcases hu with rfl | rfl <;> rfl
  · unfold maxLen; omega
  · omega
  · obtain ⟨A, c', rfl⟩ := owns_slice h2
    exact h A c' w' (by rw [rcells_snoc]; exact h2) h3
theorem wpList_appb {base : Nat} {w : World} {v : Value} {n : Nat} {xs : List Rn} (H : w.ownsRow base 36 2 v n (rcells xs)) (hb : base ≤ w.heap.size) (hn : xs.length = n) (hl : n ≤ 9000000) (r : Rn) (g d : Nat) (hbx : Bx w g #[.int .i64 r.1, .int .i64 r.2] 36)
    {ops : Array Oper} {rest : List Oper} {o : Oper} {a : Act} {Q : Exit → Act → World → Prop} (hw : Region.wanted o (yielded ops a.tmps) = true) (s x : Operand)
    (ho : o.op = .call { callee := .builtin .append, args := #[s, x], argTypes := #[46, 46] }) (hs : a.eval s = v) (hx : a.eval x = .slice (some ⟨g, 0, none⟩) 1 d)
    (h : ∀ A c w', w'.ownsRow base 36 2 (.slice A (n + 1) c) (n + 1) (rcells (xs ++ [r])) → w.grownBy w' v.ownBlock → wpList Try.prog ops Q rest (a.put o.dst (.slice A (n + 1) c)) w') : wpList Try.prog ops Q (o :: rest) a w :=
  BigFrame.wpList_want hw fun K hK => wp_appb H hb hn hl r g d hbx s x ho hs hx fun A c w' h1 h2 => hK _ _ (h A c w' h1 h2)
/-- a block ahead of a row's base stays while the row turns -/
theorem bx_grown {base : Nat} {w w' : World} {v : Value} {n : Nat} {cs : List Value} {b : Nat} {us : Array Value} {t : TypeId} (H : w.ownsRow base 36 2 v n cs) (h : Bx w b us t) (hb : b < base) (k : w.grownBy w' v.ownBlock) : Bx w' b us t :=
  Keep.of k b us t h fun e => by have := (H.lt _ e).1; omega
theorem since_grown {base : Nat} {w0 w w' : World} {v : Value} {n : Nat} {cs : List Value} (H : w.ownsRow base 36 2 v n cs) (hs : Since w0 w) (hb : w0.heap.size ≤ base) (k : w.grownBy w' v.ownBlock) : Since w0 w' :=
  Below.grown hs k hs.size (fun g hg => Nat.le_trans hb (H.lt g hg).1)
/-- a store to a block ahead of a row's base -/
theorem owns_put2 {base : Nat} {w : World} {v : Value} {n : Nat} {cs : List Value} {b : Nat} (H : w.ownsRow base 36 2 v n cs) (hb : b < base) (u0 u1 : Value) : (put2 w b u0 u1).ownsRow base 36 2 v n cs :=
  ownsRow_setCell_below (ownsRow_setCell_below H hb u0) hb u1
end Go.Proofs.Ytakfabaocgbbmaa.Zs
