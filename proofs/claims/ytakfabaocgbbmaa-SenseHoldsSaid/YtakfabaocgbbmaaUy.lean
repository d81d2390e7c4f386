/- Layer 11 (sense): a list of integers copied by append, and stored into. -/
import Derived.Test.YtakfabaocgbbmaaUl
namespace Go.Proofs.Ytakfabaocgbbmaa.Sn
open Go.RowKit
set_option linter.unusedVariables false
set_option linter.unusedSimpArgs false
open Go.Proofs.Ytakfabaocgbbmaa.Dig Go.Proofs.Ytakfabaocgbbmaa.Lx Go.Proofs.Ytakfabaocgbbmaa.Tk Go.Proofs.Ytakfabaocgbbmaa.Ti Go.Proofs.Ytakfabaocgbbmaa.Zs Go.Proofs.Ytakfabaocgbbmaa.Tr

/-- the cells begin with these integers -/
def Beg (cur : Array Value) (l : List Int) : Prop := ∀ (i : Nat) (x : Int), l[i]? = some x → cur[i]? = some (Value.int IntKind.i64 x)
/-- append(nil, a...): a row of the call's own -/
theorem wpList_copyI {w : World} {l : List Int} {n c : Nat} {A : Option Addr} (hS : Sl 1 QI w (.slice A n c) l) (hp : 0 < n) (hl : n ≤ 1000000)
    {ops : Array Oper} {rest : List Oper} {o : Oper} {a : Act} {R : Exit → Act → World → Prop} (hw : Region.wanted o (yielded ops a.tmps) = true) (s z : Operand)
    (ho : o.op = .call { callee := .builtin .append, args := #[s, z], argTypes := #[23, 23] }) (hs : a.eval s = .slice none 0 0) (hx : a.eval z = .slice A n c)
    (h : ∀ g d cur w', Bx w' g cur 2 → w.heap.size ≤ g → n ≤ d → Beg cur l → Since w w' → wpList Try.prog ops R rest (a.put o.dst (.slice (some ⟨g, 0, none⟩) n d)) w') : wpList Try.prog ops R (o :: rest) a w := by
  refine BigFrame.wpList_want hw fun K hK => ?_
  obtain ⟨i, zv, bytes, hi, hz0, hz1, hz2, hz3, hz4⟩ := nL.inf
  have hnl := hS.at_.1
  obtain ⟨A', c', e1, e2, e3⟩ := hS
  injection e1 with e4 e5 e6
  subst e4
  obtain ⟨b, o', rfl, hcell⟩ := e3 (by omega)
  have hmul : n * bytes ≤ n * 24 := Nat.mul_le_mul_left _ hz3
  refine wp_append_at w s z 23 ho w.heap.size 2 i zv 1 bytes nL.ht hi hz0 hz1 hz2 hz4 (by decide) (.slice none 0 0) 0 [] hs (World.ownsRow_nil _ _ _ _) ⟨b, o', none⟩ n c (l.map (Value.int .i64)) hx (by simp [hnl]) ?_ ?_ ?_ ?_ (Nat.le_refl _) fun v' w' h2 h3 h4 => ?_
  · intro j u hj
    rw [List.getElem?_map] at hj
    cases hlj : l[j]? with
    | none => rw [hlj] at hj; cases hj
    | some x =>
      rw [hlj] at hj
      cases hj
      obtain ⟨u, h6, h7, h8⟩ := hcell j x hlj
      cases h6
      have := h8 0 _ rfl
      rw [add_at]
      simpa using this
  · intro u hu
    simp only [List.mem_map] at hu
    obtain ⟨x, -, rfl⟩ := hu; rfl
  · unfold maxLen; omega
  · rw [Nat.zero_add]; omega
  · simp only [List.nil_append, Nat.zero_add] at h2 h3
    have hk : Since w w' := Below.grown (Since.refl _) h3 (Nat.le_refl _) (fun g hg => by simp [Value.ownBlock] at hg)
    rcases h2.2 with ⟨-, h5⟩ | ⟨g, cap, cur, rfl, h6, h7, h8, h9, h10, h11⟩
    · omega
    · refine hK _ _ (h g cap cur w' h7 h6 h8 (fun i x hx => ?_) hk)
      rw [Nat.mul_one] at h11
      have h12 : (cur.toList.take n)[i]? = some (Value.int .i64 x) := by rw [h11, List.getElem?_map, hx]; rfl
      have hi2 : i < n := by
        apply Decidable.byContradiction; intro hn
        rw [List.getElem?_eq_none (by rw [hnl] at hn; omega)] at hx; cases hx
      rw [List.getElem?_take_of_lt hi2] at h12
      simpa using h12
theorem sl_bx {W : World} {g : Nat} {cur : Array Value} {e : TypeId} {l : List Int} {n c : Nat} (h : Bx W g cur e) (hn : l.length = n) (hc : n ≤ c) (hh : Beg cur l) : Sl 1 QI W (.slice (some ⟨g, 0, none⟩) n c) l := by
  subst hn
  refine ⟨some ⟨g, 0, none⟩, c, rfl, hc, fun _ => ⟨g, 0, rfl, fun i x hx => ⟨[.int .i64 x], rfl, rfl, fun j y hy => ?_⟩⟩⟩
  match j, hy with
  | 0, hy =>
    cases hy
    rw [show 0 + i * 1 + 0 = i by omega, h.cell i]
    exact hh i x hx
  | j + 1, hy => simp at hy
theorem cur_set {cur : Array Value} {l : List Int} (hh : Beg cur l) {k : Nat} (hk : k < l.length) (y : Int) : Beg (cur.setIfInBounds k (Value.int IntKind.i64 y)) (l.set k y) := by
  intro i x hx
  have hks : k < cur.size := by
    have := hh k l[k] (by simp [hk])
    apply Decidable.byContradiction; intro hn
    rw [Array.getElem?_eq_none (by omega)] at this; cases this
  by_cases e : i = k
  · subst e
    rw [List.getElem?_set_self hk] at hx
    cases hx
    simp [hks]
  · rw [List.getElem?_set_ne (by omega)] at hx
    rw [Array.getElem?_setIfInBounds_ne (by omega)]
    exact hh i x hx
end Go.Proofs.Ytakfabaocgbbmaa.Sn
