/- An append of a slice that reads as a list (wherever it lies) to a row of the call's own. No code is spoken of. -/
import Derived.Test.YtnojfeffmbdpmaaAp6
namespace Go.Proofs.Ytnojfeffmbdpmaa.Ti
open Go.RowKit Go.Proofs.Ytnojfeffmbdpmaa.Dig
set_option linter.unusedVariables false
/-- a slice that reads as a list: its cells, one behind the other -/
theorem Sl.rows {α : Type} {size : Nat} {Q : World → α → List Value → Prop} {w : World} {A : Option Addr} {n c : Nat} {xs : List α} (h : Sl size Q w (.slice A n c) xs) :
    ∃ cs, Rws size (Q w) xs cs ∧ n = xs.length ∧ (n = 0 ∨ ∃ b o, A = some ⟨b, o, none⟩ ∧ ∀ j u, cs[j]? = some u → w.cell? ⟨b, o + j, none⟩ = some u) := by
  have hn := h.at_.1
  obtain ⟨A', c', e, -, h3⟩ := h
  injection e with e1 e2 e3
  subst e1
  by_cases h0 : xs.length = 0
  · obtain rfl := List.eq_nil_of_length_eq_zero h0
    exact ⟨[], .nil, hn, .inl (hn.trans h0)⟩
  obtain ⟨b, o, hA, hc⟩ := h3 (by omega)
  have key : ∀ k, k ≤ xs.length → ∃ cs, Rws size (Q w) (xs.take k) cs ∧ ∀ j u, cs[j]? = some u → w.cell? ⟨b, o + j, none⟩ = some u := by
    intro k
    induction k with
    | zero => intro _; exact ⟨[], .nil, fun j u hj => by simp at hj⟩
    | succ k ih =>
      intro hk
      obtain ⟨cs, h4, h5⟩ := ih (by omega)
      obtain ⟨u, h6, h7, h8⟩ := hc k xs[k] (List.getElem?_eq_getElem (by omega))
      have hl := h4.len
      rw [List.length_take, Nat.min_eq_left (by omega)] at hl
      refine ⟨cs ++ u, by rw [takeR (by omega)]; exact h4.snoc h6 h7, fun j y hj => ?_⟩
      by_cases hlt : j < cs.length
      · rw [List.getElem?_append_left hlt] at hj
        exact h5 j y hj
      · rw [List.getElem?_append_right (by omega)] at hj
        have := h8 _ y hj
        rw [show o + k * size + (j - cs.length) = o + j by omega] at this
        exact this
  obtain ⟨cs, h4, h5⟩ := key xs.length (Nat.le_refl _)
  rw [List.take_length] at h4
  exact ⟨cs, h4, hn, .inr ⟨b, o, hA, h5⟩⟩
/-- such a slice behind a row of the call's own -/
theorem wpList_append_in {P : Program} {w : World} {ops : Array Oper} {rest : List Oper} {o : Oper} {a : Act} {Q : Exit → Act → World → Prop} (hw : Region.wanted o (yielded ops a.tmps) = true) (s x : Operand) (t : TypeId)
    (ho : o.op = .call { callee := .builtin .append, args := #[s, x], argTypes := #[t, t] })
    (base : Nat) (e : TypeId) (i : TypeInfo) (z : Value) (size bytes : Nat) (ht : P.underlying t = some (.slice e)) (hi : P.info? e = some i) (hz : i.zero = some z)
    (hsize : i.size = size) (hby : i.bytes = bytes) (hzs : z.cells.size = size) (hsz : 0 < size)
    (v : Value) (n : Nat) (xs : List Value) (hs : a.eval s = v) (hown : w.ownsRow base e size v n xs)
    (A : Option Addr) (m c : Nat) (ds : List Value) (hx : a.eval x = .slice A m c) (hl : ds.length = m * size) (hA : m = 0 ∨ ∃ b o, A = some ⟨b, o, none⟩ ∧ ∀ j u, ds[j]? = some u → w.cell? ⟨b, o + j, none⟩ = some u) (h1 : ∀ u ∈ ds, u.oneCell' = true)
    (h63 : n + m ≤ maxLen) (hbytes : (n + m) * bytes ≤ 140737488355328) (hbase : base ≤ w.heap.size)
    (h : ∀ v' w', w'.ownsRow base e size v' (n + m) (xs ++ ds) → w.grownBy w' v.ownBlock → (v'.ownBlock = v.ownBlock ∨ v'.ownBlock = some w.heap.size) → wpList P ops Q rest (a.put o.dst v') w') : wpList P ops Q (o :: rest) a w := by
  refine BigFrame.wpList_want hw fun K hK => ?_
  cases A with
  | none =>
    obtain rfl : m = 0 := by
      rcases hA with h | ⟨b, o, e, -⟩
      · exact h
      · cases e
    have hd : ds = [] := List.eq_nil_of_length_eq_zero (by simpa using hl)
    subst hd
    have hrun := Go.Proofs.Ytnojfeffmbdpmaa.Tk.run_append_nil (P := P) (ty := o.type) ht hi hown c
    unfold Oper.wp execOp
    simp only [ho, resolve, invoke, builtin, Sem.run_bind, Sem.run_pure, Result.andThen_ok, List.map_toArray, List.map_cons, List.map_nil, hs, hx, hrun]
    exact hK _ _ (h v w (by simpa using hown) (World.grownBy.refl w _) (.inl rfl))
  | some ad =>
    refine wp_append_at w s x t ho base e i z size bytes ht hi hz hsize hby hzs hsz v n xs hs hown ad m c ds hx hl ?_ h1 h63 hbytes hbase
      fun v' w' h2 h3 h4 => hK _ _ (h v' w' h2 h3 h4)
    intro j u hj
    rcases hA with rfl | ⟨b, o, e1, e2⟩
    · have hd : ds = [] := List.eq_nil_of_length_eq_zero (by simpa using hl)
      rw [hd] at hj
      simp at hj
    · injection e1 with e1
      subst e1
      rw [Go.Proofs.Ytnojfeffmbdpmaa.Tk.add_at]
      exact e2 j u hj
end Go.Proofs.Ytnojfeffmbdpmaa.Ti
