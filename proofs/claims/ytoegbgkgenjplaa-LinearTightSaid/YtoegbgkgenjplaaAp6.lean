/- An append to a row of the call's own, as one operation: with where the new slice lies. No code is spoken of. -/
import Derived.BigFrame
import Derived.Maps.AppendAt
import Derived.Test.YtoegbgkgenjplaaTi
import Derived.Test.YtoegbgkgenjplaaApt
namespace Go.Proofs.Ytoegbgkgenjplaa.Ti
open Go.RowKit Go.Proofs.Ytoegbgkgenjplaa.Dig
set_option linter.unusedVariables false
theorem wp_append_at {P : Program} (w : World) {o : Oper} {a : Act} {K : Act → World → Prop} {Q : Exit → Act → World → Prop} (s x : Operand) (t : TypeId)
    (ho : o.op = .call { callee := .builtin .append, args := #[s, x], argTypes := #[t, t] })
    (base : Nat) (e : TypeId) (i : TypeInfo) (z : Value) (size bytes : Nat) (ht : P.underlying t = some (.slice e)) (hi : P.info? e = some i) (hz : i.zero = some z)
    (hsize : i.size = size) (hby : i.bytes = bytes) (hzs : z.cells.size = size) (hsz : 0 < size)
    (v : Value) (n : Nat) (xs : List Value) (hs : a.eval s = v) (hown : w.ownsRow base e size v n xs)
    (ad : Addr) (m c : Nat) (news : List Value) (hx : a.eval x = .slice (some ad) m c) (hl : news.length = m * size) (hnews : ∀ j u, news[j]? = some u → w.cell? (ad.add j) = some u) (h1 : ∀ u ∈ news, u.oneCell' = true)
    (h63 : n + m ≤ maxLen) (hbytes : (n + m) * bytes ≤ 140737488355328) (hbase : base ≤ w.heap.size)
    (h : ∀ v' w', w'.ownsRow base e size v' (n + m) (xs ++ news) → w.grownBy w' v.ownBlock → (v'.ownBlock = v.ownBlock ∨ v'.ownBlock = some w.heap.size) → K (a.put o.dst v') w') : o.wp P a w K Q := by
  obtain ⟨v', w', hr, h2, h3, h4, h5⟩ := run_append_own_at (P := P) w base t o.type e i z size bytes ht hi hz hsize hby hzs hsz v n xs hown ad m c news hl hnews h1 h63 hbytes hbase
  unfold Oper.wp execOp
  simp only [ho, resolve, invoke, builtin, Sem.run_bind, Sem.run_pure, Result.andThen_ok, List.map_toArray, List.map_cons, List.map_nil, hs, hx, hr]
  exact h v' w' h2 h3 h5
theorem Rws.one {α : Type} {size : Nat} {Q : α → List Value → Prop} (hQ : ∀ x u, Q x u → ∀ y ∈ u, y.oneCell' = true) {xs : List α} {cs : List Value} (h : Rws size Q xs cs) : ∀ y ∈ cs, y.oneCell' = true := by
  induction h with
  | nil => intro y hy; simp at hy
  | snoc h k l ih =>
    intro y hy
    rcases List.mem_append.1 hy with hy | hy
    · exact ih y hy
    · exact hQ _ _ k y hy
theorem QI.one {G : Nat → Prop} {w : World} {x : Ps.It} {u : List Value} (h : QI G w x u) : ∀ y ∈ u, y.oneCell' = true := by
  obtain ⟨d, v, rfl, h2, -, h4, -⟩ := h
  obtain ⟨A1, c1, rfl⟩ := h2.form
  obtain ⟨A2, c2, rfl⟩ := h4.form
  intro y hy
  simp only [List.mem_cons, List.not_mem_nil, or_false] at hy
  rcases hy with rfl | rfl | rfl | rfl | rfl | rfl | rfl | rfl <;> rfl
section
open Go.RowKit Go.Proofs.Ytoegbgkgenjplaa.Dig
set_option linter.unusedVariables false
/-- a slice that reads as a list: its cells, one behind the other -/
theorem Sl.rows {α : Type} {size : Nat} {Q : World → α → List Value → Prop} {w : World} {A : Option Addr} {n c : Nat} {xs : List α} (h : Sl size Q w (.slice A n c) xs) :
    ∃ cs, Rws size (Q w) xs cs ∧ n = xs.length ∧ (n = 0 ∨ ∃ b o, A = some ⟨b, o, none⟩ ∧ ∀ j u, cs[j]? = some u → w.cell? ⟨b, o + j, none⟩ = some u) := by
  have hn := h.at_.1
  obtain ⟨A', c', e, -, h3⟩ := h
  injection e with e1 e2 e3
  subst e1
  by_cases h0 : xs.length = 0
  · obtain rfl := List.eq_nil_of_length_eq_zero h0
    exact ⟨[], .nil, hn, .inl (hn.trans h0)⟩
  obtain ⟨b, o, hA, hc⟩ := h3 (by omega)
  have key : ∀ k, k ≤ xs.length → ∃ cs, Rws size (Q w) (xs.take k) cs ∧ ∀ j u, cs[j]? = some u → w.cell? ⟨b, o + j, none⟩ = some u := by
    intro k
    induction k with
    | zero => intro _; exact ⟨[], .nil, fun j u hj => by simp at hj⟩
    | succ k ih =>
      intro hk
      obtain ⟨cs, h4, h5⟩ := ih (by omega)
      obtain ⟨u, h6, h7, h8⟩ := hc k xs[k] (List.getElem?_eq_getElem (by omega))
      have hl := h4.len
      rw [List.length_take, Nat.min_eq_left (by omega)] at hl
      refine ⟨cs ++ u, by rw [takeR (by omega)]; exact h4.snoc h6 h7, fun j y hj => ?_⟩
      by_cases hlt : j < cs.length
      · rw [List.getElem?_append_left hlt] at hj
        exact h5 j y hj
      · rw [List.getElem?_append_right (by omega)] at hj
        have := h8 _ y hj
        rw [show o + k * size + (j - cs.length) = o + j by omega] at this
        exact this
  obtain ⟨cs, h4, h5⟩ := key xs.length (Nat.le_refl _)
  rw [List.take_length] at h4
  exact ⟨cs, h4, hn, .inr ⟨b, o, hA, h5⟩⟩
end
end Go.Proofs.Ytoegbgkgenjplaa.Ti
