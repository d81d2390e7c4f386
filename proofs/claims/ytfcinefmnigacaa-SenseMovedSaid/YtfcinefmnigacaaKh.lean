/- Layer 11 (sense), pure: a list moved place by place. -/
import Derived.Test.YtfcinefmnigacaaKf
import Derived.Test.YtfcinefmnigacaaUy
namespace Go.Proofs.Ytfcinefmnigacaa.Sn
set_option linter.unusedVariables false
open Go.RowKit
open Go.Proofs.Ytfcinefmnigacaa.Dig Go.Proofs.Ytfcinefmnigacaa.Lx Go.Proofs.Ytfcinefmnigacaa.Tk Go.Proofs.Ytfcinefmnigacaa.Ti Go.Proofs.Ytfcinefmnigacaa.Zs Go.Proofs.Ytfcinefmnigacaa.Tr

def mvd (b : Int) (l : List Int) (k : Nat) : List Int := movedL b (l.take k) ++ l.drop k
theorem mvd_len (b : Int) (l : List Int) (k : Nat) : (mvd b l k).length = l.length := by simp [mvd, movedL]; omega
theorem mvd_get (b : Int) {l : List Int} {k : Nat} (hk : k < l.length) : (mvd b l k)[k]? = some l[k] := by
  rw [mvd, List.getElem?_append_right (by simp [movedL]; omega)]
  simp [movedL, Nat.min_eq_left (Nat.le_of_lt hk), hk]
theorem mvd_next (b : Int) {l : List Int} {k : Nat} (hk : k < l.length) : mvd b l (k + 1) = movedL b (l.take k) ++ moveE b l[k] :: l.drop (k + 1) := by
  rw [mvd, List.take_succ_eq_append_getElem hk, movedL, List.map_append]; simp [movedL]
theorem mvd_no (b : Int) {l : List Int} {k : Nat} (hk : k < l.length) (h : within l[k] = false) : mvd b l k = mvd b l (k + 1) := by
  rw [mvd_next b hk, mvd, moveE, h, List.drop_eq_getElem_cons hk]; rfl
theorem mvd_yes (b : Int) {l : List Int} {k : Nat} (hk : k < l.length) (h : within l[k] = true) : (mvd b l k).set k (l[k] + b) = mvd b l (k + 1) := by
  have hl : (movedL b (l.take k)).length = k := by simp [movedL]; omega
  rw [mvd_next b hk, mvd, moveE, if_pos h, List.drop_eq_getElem_cons hk, List.set_append_right _ _ (by omega), hl, Nat.sub_self, List.set_cons_zero]
theorem mvd_zero (b : Int) (l : List Int) : mvd b l 0 = l := by simp [mvd, movedL]
theorem mvd_end (b : Int) (l : List Int) : mvd b l l.length = movedL b l := by simp [mvd]
theorem asked_pos {c : Cn} {a : List Int} (h : asked c a = true) (hk : c.k = 18 ∨ c.k = 19) : 0 < a.length ∨ c.x = [] := by
  cases hx : c.x with
  | nil => exact Or.inr rfl
  | cons x l =>
    have := List.all_eq_true.1 (asked_parts h).1 x (by rw [hx]; exact List.mem_cons_self)
    simp only [isV, Bool.and_eq_true, decide_eq_true_eq] at this
    exact Or.inl (by omega)
theorem sl_none {W : World} (A : Option Addr) (d : Nat) : Sl 1 QI W (.slice A 0 d) [] := ⟨A, d, rfl, Nat.zero_le _, fun h => absurd h (by simp)⟩
/-- append(nil, a...) of nothing -/
theorem wpList_copyE {w : World} {c : Nat} {A : Option Addr}
    {ops : Array Oper} {rest : List Oper} {o : Oper} {a : Act} {R : Exit → Act → World → Prop} (hw : Region.wanted o (yielded ops a.tmps) = true) (s z : Operand)
    (ho : o.op = .call { callee := .builtin .append, args := #[s, z], argTypes := #[23, 23] }) (hs : a.eval s = .slice none 0 0) (hx : a.eval z = .slice A 0 c)
    (h : ∀ B d w', Since w w' → wpList Try.prog ops R rest (a.put o.dst (.slice B 0 d)) w') : wpList Try.prog ops R (o :: rest) a w := by
  refine BigFrame.wpList_want hw fun K hK => ?_
  obtain ⟨i, zv, bytes, hi, hz0, hz1, hz2, hz3, hz4⟩ := nL.inf
  cases A with
  | none =>
    have hrun := Go.Proofs.Ytfcinefmnigacaa.Tk.run_append_nil (P := Try.prog) (ty := o.type) nL.ht hi (World.ownsRow_nil w w.heap.size 2 1) c
    unfold Oper.wp execOp
    simp only [ho, resolve, invoke, builtin, Sem.run_bind, Sem.run_pure, Result.andThen_ok, List.map_toArray, List.map_cons, List.map_nil, hs, hx, hrun]
    exact hK _ _ (h none 0 w (Since.refl _))
  | some ad =>
    refine wp_append_at w s z 23 ho w.heap.size 2 i zv 1 bytes nL.ht hi hz0 hz1 hz2 hz4 (by decide) (.slice none 0 0) 0 [] hs (World.ownsRow_nil _ _ _ _) ad 0 c [] hx rfl (by simp) (by simp) (by unfold maxLen; omega) (by simp) (Nat.le_refl _) fun v' w' h2 h3 h4 => ?_
    have hk : Since w w' := Below.grown (Since.refl _) h3 (Nat.le_refl _) (fun g hg => by simp [Value.ownBlock] at hg)
    rcases h2.2 with ⟨rfl, -⟩ | ⟨g, cap, cur, rfl, -⟩
    · exact hK _ _ (h none 0 w' hk)
    · exact hK _ _ (h _ _ w' hk)
end Go.Proofs.Ytfcinefmnigacaa.Sn
