/- An append of tokens, none of them too, to a row of the call's own, behind a guard that says yes. No code is spoken of. -/
import Derived.Test.YtakfabaocgbbmaaTk
import Derived.BigFrame
import Derived.Laws.AppendOwn
namespace Go.Proofs.Ytakfabaocgbbmaa.Tk
open Go.RowKit
set_option linter.unusedVariables false

theorem run_append_nil {P : Program} {w : World} {base : Nat} {t ty e : TypeId} {i : TypeInfo} {size : Nat} (ht : P.underlying t = some (.slice e)) (hi : P.info? e = some i)
    {v : Value} {n : Nat} {xs : List Value} (hown : w.ownsRow base e size v n xs) (c : Nat) : (Builtin.append_ #[t, t] ty #[v, .slice none 0 c]).run P w = .ok v w := by
  rcases hown.2 with ⟨rfl, rfl⟩ | ⟨g, cap, cur, rfl, _, _, hnc, _⟩
  · simp [Builtin.append_, run_underlying ht, sizeOf, typeInfo, hi, Builtin.lenOf, Builtin.firstCells]
  · simp [Builtin.append_, run_underlying ht, sizeOf, typeInfo, hi, Builtin.lenOf, Builtin.firstCells, hnc, storeCells]
theorem cells4_one (t : Tv) : ∀ u ∈ cells4 t, u.oneCell' = true := by
  intro u hu
  simp only [cells4, List.mem_cons, List.not_mem_nil, or_false] at hu
  rcases hu with rfl | rfl | rfl | rfl <;> rfl
theorem tcells_oneCell : ∀ ts : List Tv, ∀ u ∈ tcells ts, u.oneCell' = true
  | [], u, h => by simp [tcells] at h
  | t :: r, u, h => by
    rcases List.mem_append.1 h with h | h
    · exact cells4_one t u h
    · exact tcells_oneCell r u h
/-- the cells of a slice's tokens -/
theorem Toks.cells {w : World} {b o m c : Nat} {ts : List Tv} (h : Toks w (.slice (some ⟨b, o, none⟩) m c) ts) : ∀ j u, (tcells ts)[j]? = some u → w.cell? ((⟨b, o, none⟩ : Addr).add j) = some u := by
  intro j u hj
  rw [add_at]
  have hl : j < (tcells ts).length := by
    apply Decidable.byContradiction; intro hn
    rw [List.getElem?_eq_none (by omega)] at hj; cases hj
  rw [tcells_len] at hl
  obtain ⟨b', o', e, h1, h2, h3, h4⟩ := h.el (i := j / 4) (by omega)
  injection e with e
  injection e with e1 e2
  subst e1 e2
  have ej : j = j / 4 * 4 + j % 4 := by omega
  have hg := tcells_get ts (j / 4) (j % 4) (by omega) (by omega)
  rw [← ej] at hg
  rw [hg] at hj
  have hr : j % 4 = 0 ∨ j % 4 = 1 ∨ j % 4 = 2 ∨ j % 4 = 3 := by omega
  rcases hr with hr | hr | hr | hr <;> rw [hr] at hj ej <;> injection hj with hj <;> subst hj
  · rw [show o + j = o + j / 4 * 4 by omega]; exact h1
  · rw [show o + j = o + j / 4 * 4 + 1 by omega]; exact h2
  · rw [show o + j = o + j / 4 * 4 + 2 by omega]; exact h3
  · rw [show o + j = o + j / 4 * 4 + 3 by omega]; exact h4
theorem wpList_append_toks {P : Program} {w : World} {ops : Array Oper} {rest : List Oper} {o : Oper} {a : Act} {Q : Exit → Act → World → Prop} (hw : Region.wanted o (yielded ops a.tmps) = true) (s x : Operand) (t : TypeId)
    (ho : o.op = .call { callee := .builtin .append, args := #[s, x], argTypes := #[t, t] })
    (base : Nat) (e : TypeId) (i : TypeInfo) (z : Value) (bytes : Nat) (ht : P.underlying t = some (.slice e)) (hi : P.info? e = some i) (hz : i.zero = some z)
    (hsize : i.size = 4) (hby : i.bytes = bytes) (hzs : z.cells.size = 4)
    (v : Value) (n : Nat) (xs : List Tv) (hs : a.eval s = v) (hown : w.ownsRow base e 4 v n (tcells xs))
    (B : Option Addr) (m c : Nat) (news : List Tv) (hx : a.eval x = .slice B m c) (hr : Toks w (.slice B m c) news)
    (h63 : n + m ≤ maxLen) (hbytes : (n + m) * bytes ≤ 140737488355328) (hbase : base ≤ w.heap.size)
    (h : ∀ v' w', w'.ownsRow base e 4 v' (n + m) (tcells (xs ++ news)) → w.grownBy w' v.ownBlock → wpList P ops Q rest (a.put o.dst v') w') : wpList P ops Q (o :: rest) a w := by
  refine BigFrame.wpList_want hw fun K hK => ?_
  have hm := hr.at_.1
  by_cases h0 : m = 0
  · have hn : news = [] := List.eq_nil_of_length_eq_zero (by omega)
    subst h0
    subst hn
    cases B with
    | none =>
      have hrun := run_append_nil (P := P) (ty := o.type) ht hi hown c
      unfold Oper.wp execOp
      simp only [ho, resolve, invoke, builtin, Sem.run_bind, Sem.run_pure, Result.andThen_ok, List.map_toArray, List.map_cons, List.map_nil, hs, hx, hrun]
      exact hK _ _ (h v w (by simpa using hown) (World.grownBy.refl w _))
    | some ad =>
      exact wp_append_own w s x t ho base e i z 4 bytes ht hi hz hsize hby hzs (by decide) v n (tcells xs) hs hown ad 0 c [] hx rfl (by simp) (by simp) h63 hbytes hbase
        fun v' w' h2 h3 _ => hK _ _ (h v' w' (by simpa using h2) h3)
  · obtain ⟨b, o', rfl, -⟩ := hr.el (i := 0) (by omega)
    exact wp_append_own w s x t ho base e i z 4 bytes ht hi hz hsize hby hzs (by decide) v n (tcells xs) hs hown ⟨b, o', none⟩ m c (tcells news) hx (by rw [tcells_len]; omega) hr.cells (tcells_oneCell news) h63 hbytes hbase
      fun v' w' h2 h3 _ => hK _ _ (h v' w' (by rw [tcells_append]; exact h2) h3)
end Go.Proofs.Ytakfabaocgbbmaa.Tk
