/- Layer 10 (trail): two rows of the call's own, side by side: an append to one leaves the other. No code is spoken of. -/
import Derived.Test.YtfcinefmnigacaaFc
namespace Go.Proofs.Ytfcinefmnigacaa.Tr
open Go.RowKit
set_option linter.unusedVariables false
set_option linter.unusedSimpArgs false
open Go.Proofs.Ytfcinefmnigacaa.Dig Go.Proofs.Ytfcinefmnigacaa.Lx Go.Proofs.Ytfcinefmnigacaa.Tk Go.Proofs.Ytfcinefmnigacaa.Ti Go.Proofs.Ytfcinefmnigacaa.Zs

/-- two slices that lie in no block together -/
def Apart (v u : Value) : Prop := ∀ b, v.ownBlock = some b → u.ownBlock ≠ some b
theorem Apart.symm {v u : Value} (h : Apart v u) : Apart u v := fun b h1 h2 => h b h2 h1
theorem Apart.nil (u : Value) : Apart (.slice none 0 0) u := fun b h => by simp [Value.ownBlock] at h
/-- how an append leaves its row: where the new row lies, and what else has turned -/
def Wide (v v' : Value) (w w' : World) : Prop := w.grownBy w' v.ownBlock ∧ (v'.ownBlock = v.ownBlock ∨ v'.ownBlock = some w.heap.size)
theorem Wide.apart {α : Type} {e : TypeId} {Q : α → List Value → Prop} {w1 w w' : World} {v v' u : Value} {ys : List α} (k : Wide v v' w w') (h : Apart v u) (hu : Rq e Q w1 w u ys) : Apart v' u := by
  intro b hb hub
  rcases k.2 with e | e
  · exact h b (e ▸ hb) hub
  · rw [hb] at e
    injection e with e
    have := (hu.lt b hub).2
    omega
theorem Wide.rq {α : Type} {e : TypeId} {Q : α → List Value → Prop} {w1 w w' : World} {v v' u : Value} {ys : List α} (k : Wide v v' w w') (h : Apart v u) (hu : Rq e Q w1 w u ys) (hs : Since w1 w') : Rq e Q w1 w' u ys := by
  obtain ⟨cs, h1, h2, h3⟩ := hu
  refine ⟨cs, h1.kept k.1 ?_, h2, hs⟩
  cases hb : u.ownBlock with
  | none => exact .inl rfl
  | some b => exact .inr fun e => h b e.symm hb
theorem wpList_appW {P : Program} {α : Type} {Q : α → List Value → Prop} {w1 w : World} {t e : TypeId} (K1 : Kind1 P t e) {v : Value} {xs : List α} (H : Rq e Q w1 w v xs) (hl : xs.length ≤ 1000000) (x : α) (y : Value) (hQ : Q x [y]) (h1 : y.oneCell' = true) (g d : Nat) (hb : w.cell? ⟨g, 0, none⟩ = some y)
    {ops : Array Oper} {rest : List Oper} {o : Oper} {a : Act} {R : Exit → Act → World → Prop} (hw : Region.wanted o (yielded ops a.tmps) = true) (s z : Operand)
    (ho : o.op = .call { callee := .builtin .append, args := #[s, z], argTypes := #[t, t] }) (hs : a.eval s = v) (hx : a.eval z = .slice (some ⟨g, 0, none⟩) 1 d)
    (h : ∀ A c w', Rq e Q w1 w' (.slice A (xs.length + 1) c) (xs ++ [x]) → Wide v (.slice A (xs.length + 1) c) w w' → wpList P ops R rest (a.put o.dst (.slice A (xs.length + 1) c)) w') : wpList P ops R (o :: rest) a w := by
  refine BigFrame.wpList_want hw fun K hK => ?_
  obtain ⟨i, zv, bytes, hi, hz0, hz1, hz2, hz3, hz4⟩ := K1.inf
  obtain ⟨cs, hown, hrows, hsi⟩ := H
  have hsz := hsi.size
  have hmul : (xs.length + 1) * bytes ≤ (xs.length + 1) * 24 := Nat.mul_le_mul_left _ hz3
  refine wp_append_at w s z t ho w1.heap.size e i zv 1 bytes K1.ht hi hz0 hz1 hz2 hz4 (by decide) v xs.length cs hs hown ⟨g, 0, none⟩ 1 d [y] hx rfl ?_ ?_ ?_ ?_ hsz fun v' w' h2 h3 h4 => ?_
  · intro j u hj
    rw [add_at, Nat.zero_add]
    match j, hj with
    | 0, hj => cases hj; exact hb
    | j + 1, hj => simp at hj
  · intro u hu; simp at hu; subst hu; exact h1
  · unfold maxLen; omega
  · omega
  · obtain ⟨A, c', rfl⟩ := owns_slice h2
    refine hK _ _ (h A c' w' ⟨cs ++ [y], ?_, hrows.snoc hQ rfl, ?_⟩ ⟨h3, h4⟩)
    · rw [List.length_append]; exact h2
    · exact Below.grown hsi h3 hsz (fun g hg => (hown.lt g hg).1)
end Go.Proofs.Ytfcinefmnigacaa.Tr
