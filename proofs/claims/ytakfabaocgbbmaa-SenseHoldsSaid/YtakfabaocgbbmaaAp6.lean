/- An append to a row of the call's own, as one operation: with where the new slice lies. No code is spoken of. -/
import Derived.Test.YtakfabaocgbbmaaTi
import Derived.Maps.AppendAt
import Derived.Test.YtakfabaocgbbmaaApt
import Derived.BigFrame
namespace Go.Proofs.Ytakfabaocgbbmaa.Ti
open Go.RowKit Go.Proofs.Ytakfabaocgbbmaa.Dig
set_option linter.unusedVariables false

theorem wp_append_at {P : Program} (w : World) {o : Oper} {a : Act} {K : Act → World → Prop} {Q : Exit → Act → World → Prop} (s x : Operand) (t : TypeId)
    (ho : o.op = .call { callee := .builtin .append, args := #[s, x], argTypes := #[t, t] })
    (base : Nat) (e : TypeId) (i : TypeInfo) (z : Value) (size bytes : Nat) (ht : P.underlying t = some (.slice e)) (hi : P.info? e = some i) (hz : i.zero = some z)
    (hsize : i.size = size) (hby : i.bytes = bytes) (hzs : z.cells.size = size) (hsz : 0 < size)
    (v : Value) (n : Nat) (xs : List Value) (hs : a.eval s = v) (hown : w.ownsRow base e size v n xs)
    (ad : Addr) (m c : Nat) (news : List Value) (hx : a.eval x = .slice (some ad) m c) (hl : news.length = m * size) (hnews : ∀ j u, news[j]? = some u → w.cell? (ad.add j) = some u) (h1 : ∀ u ∈ news, u.oneCell' = true)
    (h63 : n + m ≤ maxLen) (hbytes : (n + m) * bytes ≤ 140737488355328) (hbase : base ≤ w.heap.size)
    (h : ∀ v' w', w'.ownsRow base e size v' (n + m) (xs ++ news) → w.grownBy w' v.ownBlock → (v'.ownBlock = v.ownBlock ∨ v'.ownBlock = some w.heap.size) → K (a.put o.dst v') w') : o.wp P a w K Q := by
  obtain ⟨v', w', hr, h2, h3, h4, h5⟩ := run_append_own_at (P := P) w base t o.type e i z size bytes ht hi hz hsize hby hzs hsz v n xs hown ad m c news hl hnews h1 h63 hbytes hbase
  unfold Oper.wp execOp
  simp only [ho, resolve, invoke, builtin, Sem.run_bind, Sem.run_pure, Result.andThen_ok, List.map_toArray, List.map_cons, List.map_nil, hs, hx, hr]
  exact h v' w' h2 h3 h5
theorem Rws.one {α : Type} {size : Nat} {Q : α → List Value → Prop} (hQ : ∀ x u, Q x u → ∀ y ∈ u, y.oneCell' = true) {xs : List α} {cs : List Value} (h : Rws size Q xs cs) : ∀ y ∈ cs, y.oneCell' = true := by
  induction h with
  | nil => intro y hy; simp at hy
  | snoc h k l ih =>
    intro y hy
    rcases List.mem_append.1 hy with hy | hy
    · exact ih y hy
    · exact hQ _ _ k y hy
theorem QI.one {G : Nat → Prop} {w : World} {x : Ps.It} {u : List Value} (h : QI G w x u) : ∀ y ∈ u, y.oneCell' = true := by
  obtain ⟨d, v, rfl, h2, -, h4, -⟩ := h
  obtain ⟨A1, c1, rfl⟩ := h2.form
  obtain ⟨A2, c2, rfl⟩ := h4.form
  intro y hy
  simp only [List.mem_cons, List.not_mem_nil, or_false] at hy
  rcases hy with rfl | rfl | rfl | rfl | rfl | rfl | rfl | rfl <;> rfl
/-- one row of the call's own behind another -/
theorem wpList_append_rows {P : Program} {w : World} {ops : Array Oper} {rest : List Oper} {o : Oper} {a : Act} {Q : Exit → Act → World → Prop} (hw : Region.wanted o (yielded ops a.tmps) = true) (s x : Operand) (t : TypeId)
    (ho : o.op = .call { callee := .builtin .append, args := #[s, x], argTypes := #[t, t] })
    (base : Nat) (e : TypeId) (i : TypeInfo) (z : Value) (size bytes : Nat) (ht : P.underlying t = some (.slice e)) (hi : P.info? e = some i) (hz : i.zero = some z)
    (hsize : i.size = size) (hby : i.bytes = bytes) (hzs : z.cells.size = size) (hsz : 0 < size)
    (v : Value) (n : Nat) (xs : List Value) (hs : a.eval s = v) (hown : w.ownsRow base e size v n xs)
    (base2 : Nat) (e2 : TypeId) (v2 : Value) (m : Nat) (ds : List Value) (hx : a.eval x = v2) (hr : w.ownsRow base2 e2 size v2 m ds) (h1 : ∀ u ∈ ds, u.oneCell' = true)
    (h63 : n + m ≤ maxLen) (hbytes : (n + m) * bytes ≤ 140737488355328) (hbase : base ≤ w.heap.size)
    (h : ∀ v' w', w'.ownsRow base e size v' (n + m) (xs ++ ds) → w.grownBy w' v.ownBlock → (v'.ownBlock = v.ownBlock ∨ v'.ownBlock = some w.heap.size) → wpList P ops Q rest (a.put o.dst v') w') : wpList P ops Q (o :: rest) a w := by
  refine BigFrame.wpList_want hw fun K hK => ?_
  have hlen := hr.1
  have hc := fun (g : Nat) => hr.cells (g := g)
  rcases hr.2 with ⟨rfl, rfl⟩ | ⟨g, cap, cur, rfl, -⟩
  · have hd : ds = [] := List.eq_nil_of_length_eq_zero (by simpa using hlen)
    subst hd
    have hrun := Go.Proofs.Ytakfabaocgbbmaa.Tk.run_append_nil (P := P) (ty := o.type) ht hi hown 0
    unfold Oper.wp execOp
    simp only [ho, resolve, invoke, builtin, Sem.run_bind, Sem.run_pure, Result.andThen_ok, List.map_toArray, List.map_cons, List.map_nil, hs, hx, hrun]
    exact hK _ _ (h v w (by simpa using hown) (World.grownBy.refl w _) (.inl rfl))
  · exact wp_append_at w s x t ho base e i z size bytes ht hi hz hsize hby hzs hsz v n xs hs hown ⟨g, 0, none⟩ m cap ds hx hlen (hc g rfl) h1 h63 hbytes hbase
      fun v' w' h2 h3 h4 => hK _ _ (h v' w' h2 h3 h4)
/-- an item, cell by cell, in a later world; what it hangs on, as it lay -/
theorem elI2 {G : Nat → Prop} {w wr : World} {A : Option Addr} {n c : Nat} {xs : List Ps.It} (h : Sl 8 (QI G) w (.slice A n c) xs) (k : Since w wr) {i : Nat} (hi : i < xs.length) :
    ∃ b o A1 c1 A2 c2, A = some ⟨b, o, none⟩ ∧ Sl 2 QR w (.slice A1 xs[i].dom.length c1) xs[i].dom ∧ FarO G (.slice A1 xs[i].dom.length c1) ∧ Exprs w (.slice A2 xs[i].vals.length c2) xs[i].vals ∧
      wr.cell? ⟨b, o + i * 8, none⟩ = some (.int .i64 xs[i].kind) ∧ wr.cell? ⟨b, o + i * 8 + 1, none⟩ = some (.string xs[i].name) ∧ wr.cell? ⟨b, o + i * 8 + 2, none⟩ = some (.bool xs[i].bool) ∧ wr.cell? ⟨b, o + i * 8 + 3, none⟩ = some (.slice A1 xs[i].dom.length c1) ∧
      wr.cell? ⟨b, o + i * 8 + 4, none⟩ = some (.int .i64 xs[i].size) ∧ wr.cell? ⟨b, o + i * 8 + 5, none⟩ = some (.bool xs[i].out) ∧ wr.cell? ⟨b, o + i * 8 + 6, none⟩ = some (.slice A2 xs[i].vals.length c2) ∧ wr.cell? ⟨b, o + i * 8 + 7, none⟩ = some (.int .i64 xs[i].ask) := by
  obtain ⟨b, o, A1, c1, A2, c2, h1, h2, h3, h4, g0, g1, g2, g3, g4, g5, g6, g7⟩ := elI h hi
  have up : ∀ {p : Addr} {u : Value}, w.cell? p = some u → wr.cell? p = some u := fun g => (k.cell _ (World.block_lt_of_cell? _ _ g)).trans g
  exact ⟨b, o, A1, c1, A2, c2, h1, h2, h3, h4, up g0, up g1, up g2, up g3, up g4, up g5, up g6, up g7⟩
section
open Go.RowKit Go.Proofs.Ytakfabaocgbbmaa.Dig
set_option linter.unusedVariables false
/-- a slice that reads as a list: its cells, one behind the other -/
theorem Sl.rows {α : Type} {size : Nat} {Q : World → α → List Value → Prop} {w : World} {A : Option Addr} {n c : Nat} {xs : List α} (h : Sl size Q w (.slice A n c) xs) :
    ∃ cs, Rws size (Q w) xs cs ∧ n = xs.length ∧ (n = 0 ∨ ∃ b o, A = some ⟨b, o, none⟩ ∧ ∀ j u, cs[j]? = some u → w.cell? ⟨b, o + j, none⟩ = some u) := by
  have hn := h.at_.1
  obtain ⟨A', c', e, -, h3⟩ := h
  injection e with e1 e2 e3
  subst e1
  by_cases h0 : xs.length = 0
  · obtain rfl := List.eq_nil_of_length_eq_zero h0
    exact ⟨[], .nil, hn, .inl (hn.trans h0)⟩
  obtain ⟨b, o, hA, hc⟩ := h3 (by omega)
  have key : ∀ k, k ≤ xs.length → ∃ cs, Rws size (Q w) (xs.take k) cs ∧ ∀ j u, cs[j]? = some u → w.cell? ⟨b, o + j, none⟩ = some u := by
    intro k
    induction k with
    | zero => intro _; exact ⟨[], .nil, fun j u hj => by simp at hj⟩
    | succ k ih =>
      intro hk
      obtain ⟨cs, h4, h5⟩ := ih (by omega)
      obtain ⟨u, h6, h7, h8⟩ := hc k xs[k] (List.getElem?_eq_getElem (by omega))
      have hl := h4.len
      rw [List.length_take, Nat.min_eq_left (by omega)] at hl
      refine ⟨cs ++ u, by rw [takeR (by omega)]; exact h4.snoc h6 h7, fun j y hj => ?_⟩
      by_cases hlt : j < cs.length
      · rw [List.getElem?_append_left hlt] at hj
        exact h5 j y hj
      · rw [List.getElem?_append_right (by omega)] at hj
        have := h8 _ y hj
        rw [show o + k * size + (j - cs.length) = o + j by omega] at this
        exact this
  obtain ⟨cs, h4, h5⟩ := key xs.length (Nat.le_refl _)
  rw [List.take_length] at h4
  exact ⟨cs, h4, hn, .inr ⟨b, o, hA, h5⟩⟩
/-- such a slice behind a row of the call's own -/
theorem wpList_append_in {P : Program} {w : World} {ops : Array Oper} {rest : List Oper} {o : Oper} {a : Act} {Q : Exit → Act → World → Prop} (hw : Region.wanted o (yielded ops a.tmps) = true) (s x : Operand) (t : TypeId)
    (ho : o.op = .call { callee := .builtin .append, args := #[s, x], argTypes := #[t, t] })
    (base : Nat) (e : TypeId) (i : TypeInfo) (z : Value) (size bytes : Nat) (ht : P.underlying t = some (.slice e)) (hi : P.info? e = some i) (hz : i.zero = some z)
    (hsize : i.size = size) (hby : i.bytes = bytes) (hzs : z.cells.size = size) (hsz : 0 < size)
    (v : Value) (n : Nat) (xs : List Value) (hs : a.eval s = v) (hown : w.ownsRow base e size v n xs)
    (A : Option Addr) (m c : Nat) (ds : List Value) (hx : a.eval x = .slice A m c) (hl : ds.length = m * size) (hA : m = 0 ∨ ∃ b o, A = some ⟨b, o, none⟩ ∧ ∀ j u, ds[j]? = some u → w.cell? ⟨b, o + j, none⟩ = some u) (h1 : ∀ u ∈ ds, u.oneCell' = true)
    (h63 : n + m ≤ maxLen) (hbytes : (n + m) * bytes ≤ 140737488355328) (hbase : base ≤ w.heap.size)
    (h : ∀ v' w', w'.ownsRow base e size v' (n + m) (xs ++ ds) → w.grownBy w' v.ownBlock → (v'.ownBlock = v.ownBlock ∨ v'.ownBlock = some w.heap.size) → wpList P ops Q rest (a.put o.dst v') w') : wpList P ops Q (o :: rest) a w := by
  refine BigFrame.wpList_want hw fun K hK => ?_
  cases A with
  | none =>
    obtain rfl : m = 0 := by
      rcases hA with h | ⟨b, o, e, -⟩
      · exact h
      · cases e
    have hd : ds = [] := List.eq_nil_of_length_eq_zero (by simpa using hl)
    subst hd
    have hrun := Go.Proofs.Ytakfabaocgbbmaa.Tk.run_append_nil (P := P) (ty := o.type) ht hi hown c
    unfold Oper.wp execOp
    simp only [ho, resolve, invoke, builtin, Sem.run_bind, Sem.run_pure, Result.andThen_ok, List.map_toArray, List.map_cons, List.map_nil, hs, hx, hrun]
    exact hK _ _ (h v w (by simpa using hown) (World.grownBy.refl w _) (.inl rfl))
  | some ad =>
    refine wp_append_at w s x t ho base e i z size bytes ht hi hz hsize hby hzs hsz v n xs hs hown ad m c ds hx hl ?_ h1 h63 hbytes hbase
      fun v' w' h2 h3 h4 => hK _ _ (h v' w' h2 h3 h4)
    intro j u hj
    rcases hA with rfl | ⟨b, o, e1, e2⟩
    · have hd : ds = [] := List.eq_nil_of_length_eq_zero (by simpa using hl)
      rw [hd] at hj
      simp at hj
    · injection e1 with e1
      subst e1
      rw [Go.Proofs.Ytakfabaocgbbmaa.Tk.add_at]
      exact e2 j u hj
end
end Go.Proofs.Ytakfabaocgbbmaa.Ti
