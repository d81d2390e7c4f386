/- Layer 9 (set): the ways in which the calls of a set end. Layer 9 (set): an append of ranges, wherever they lie -/
import Derived.Lib.SliceRun
import Derived.Test.YtilgmkhcpmegjaaFa
set_option linter.unusedVariables false
set_option linter.unusedSimpArgs false
section
namespace Go.Proofs.Ytilgmkhcpmegjaa.Zs
open Go.RowKit
open Go.Proofs.Ytilgmkhcpmegjaa.Dig Go.Proofs.Ytilgmkhcpmegjaa.Lx Go.Proofs.Ytilgmkhcpmegjaa.Tk Go.Proofs.Ytilgmkhcpmegjaa.Ti
/-- ends in a value, or in none -/
def RetN (r : Option Int) (w : World) (e : Ending) (w' : World) : Prop := e = .returned (.tuple #[.int .i64 (r.getD 0), .bool r.isSome]) ∧ Since w w'
theorem RetN.no {r : Option Int} {w w' : World} (h : none = r) (k : Since w w') : RetN r w (.returned (.tuple #[.int .i64 0, .bool false])) w' := by subst h; exact ⟨rfl, k⟩
theorem RetN.yes {r : Option Int} {x : Int} {w w' : World} (h : some x = r) (k : Since w w') : RetN r w (.returned (.tuple #[.int .i64 x, .bool true])) w' := by subst h; exact ⟨rfl, k⟩
theorem right_at {v : Value} {l : List Rn} {w : World} (h : Sl 2 QR w v l) (hl : l.length ≤ 1100000) (hb : Bd l) {R : Bool} (hR : right l = R) (W : World) (k : Since w W) :
    Calls Try.prog 94 #[v] W (RetT R W) := by subst hR; exact right_any v l W (h.since stR k) hl hb
theorem right_full {l : List Rn} (h : right l = true) : full l := full_right h (Int.le_refl _)
/-- ends in a number -/
def RetI (z : Int) (w : World) (e : Ending) (w' : World) : Prop := e = .returned (.int .i64 z) ∧ Since w w'
theorem RetI.of {z z' : Int} {w w' : World} (h : z = z') (k : Since w w') : RetI z' w (.returned (.int .i64 z)) w' := ⟨by rw [h], k⟩
/-- ends in a range, or in none -/
def RetE (r : Option Rn) (w : World) (e : Ending) (w' : World) : Prop := e = .returned (.tuple #[.agg #[.int .i64 (r.getD (0, 0)).1, .int .i64 (r.getD (0, 0)).2], .bool r.isSome]) ∧ Since w w'
/-- ends in a row of the call's own -/
def RetW (w0 W : World) (v : Value) (ys : List Rn) (e : Ending) (w' : World) : Prop := ∃ A m c, e = .returned (.slice A m c) ∧ ys.length = m ∧ Rw w0 w' (.slice A m c) ys ∧ Keep v W w'
/-- ends in ranges -/
def RetS (ys : List Rn) (w : World) (e : Ending) (w' : World) : Prop := ∃ A m c, e = .returned (.slice A m c) ∧ ys.length = m ∧ Sl 2 QR w' (.slice A m c) ys ∧ Since w w'
theorem RetS.of {ys xs : List Rn} {w w' : World} {A : Option Addr} {m c : Nat} (h : xs = ys) (hm : xs.length = m) (k : Rw w w' (.slice A m c) xs) : RetS ys w (.returned (.slice A m c)) w' := by
  subst h; exact ⟨A, m, c, rfl, hm, k.sl, k.2⟩
theorem RetS.none {ys : List Rn} {w w' : World} (h : ys = []) (k : Since w w') : RetS ys w (.returned (.slice none 0 0)) w' := by
  subst h; exact ⟨_, 0, 0, rfl, rfl, Sl.nil _ _ _, k⟩
theorem owns_frozen {w : World} {base : Nat} {e : TypeId} {size : Nat} {v : Value} {n : Nat} {xs : List Value} (h : w.ownsRow base e size v n xs) {g : Nat} (hg : v.ownBlock = some g) (j : Nat) : w.frozen? ⟨g, j, none⟩ = false := by
  rcases h.2 with ⟨h1, -⟩ | ⟨a, cap, cur, h1, -, h3, -⟩
  · rw [h1] at hg; cases hg
  rw [h1] at hg
  cases hg
  simp [World.frozen?, h3]
/-- ends in ranges, in memory of the call's own -/
def RetF (ys : List Rn) (w : World) (e : Ending) (w' : World) : Prop := ∃ A m c, e = .returned (.slice A m c) ∧ ys.length = m ∧ Sl 2 QR w' (.slice A m c) ys ∧ Since w w' ∧ ∀ b, (Value.slice A m c).ownBlock = some b → w.heap.size ≤ b ∧ b < w'.heap.size ∧ ∀ j, w'.frozen? ⟨b, j, none⟩ = false
theorem RetF.of {ys xs : List Rn} {w w' : World} {A : Option Addr} {m c : Nat} (h : xs = ys) (hm : xs.length = m) (k : Rw w w' (.slice A m c) xs) : RetF ys w (.returned (.slice A m c)) w' := by
  subst h; exact ⟨A, m, c, rfl, hm, k.sl, k.2, fun b hb => ⟨(k.1.lt b hb).1, (k.1.lt b hb).2, owns_frozen k.1 hb⟩⟩
theorem RetF.none {ys : List Rn} {w w' : World} (h : ys = []) (k : Since w w') : RetF ys w (.returned (.slice none 0 0)) w' := by
  subst h; exact ⟨_, 0, 0, rfl, rfl, Sl.nil _ _ _, k, fun b hb => by simp [Value.ownBlock] at hb⟩
theorem RetF.s {ys : List Rn} {w w' : World} {e : Ending} (h : RetF ys w e w') : RetS ys w e w' := by
  obtain ⟨A, m, c, h1, h2, h3, h4, -⟩ := h; exact ⟨A, m, c, h1, h2, h3, h4⟩
theorem one_len (lo hi : Int) : (one lo hi).length ≤ 1 := by unfold one; split <;> simp
theorem app_len (xs : List Rn) (lo hi : Int) : (xs ++ one lo hi).length ≤ xs.length + 1 := by rw [List.length_append]; have := one_len lo hi; omega
theorem upto' {α : Type} {xs ys : List α} {n : Nat} (hx : n = xs.length) (hy : n = ys.length) (h : ∀ j, j < n → xs[j]? = ys[j]?) : xs = ys := by
  apply List.ext_getElem?
  intro j
  rcases Nat.lt_or_ge j n with hj | hj
  · exact h j hj
  · rw [List.getElem?_eq_none (by omega), List.getElem?_eq_none (by omega)]
end Go.Proofs.Ytilgmkhcpmegjaa.Zs
end
section
namespace Go.Proofs.Ytilgmkhcpmegjaa.Zs
open Go.RowKit
open Go.Proofs.Ytilgmkhcpmegjaa.Dig Go.Proofs.Ytilgmkhcpmegjaa.Lx Go.Proofs.Ytilgmkhcpmegjaa.Tk Go.Proofs.Ytilgmkhcpmegjaa.Ti
theorem rws_cells {w : World} {l : List Rn} {cs : List Value} (h : Rws 2 (QR w) l cs) : cs = rcells l := by
  induction h with
  | nil => rfl
  | snoc h k l ih => rw [rcells_snoc, ih]; unfold QR at k; rw [k]
theorem rcells_append (a c : List Rn) : rcells (a ++ c) = rcells a ++ rcells c := by simp [rcells]
set_option maxRecDepth 20000 in
theorem wp_appIn {w0 w : World} {v : Value} {xs ys : List Rn} {B : Option Addr} {m d : Nat} (H : Rw w0 w v xs) (hl : xs.length ≤ 9000000) (hy : Sl 2 QR w (.slice B m d) ys) (hm : m ≤ 9000000)
    {o : Oper} {a : Act} {K : Act → World → Prop} {Q : Exit → Act → World → Prop} (s x : Operand)
    (ho : o.op = .call { callee := .builtin .append, args := #[s, x], argTypes := #[43, 43] }) (hs : a.eval s = v) (hx : a.eval x = .slice B m d)
    (h : ∀ A c w', Rw w0 w' (.slice A (xs.length + m) c) (xs ++ ys) → Keep v w w' → K (a.put o.dst (.slice A (xs.length + m) c)) w') : o.wp Try.prog a w K Q := by
  obtain ⟨i0, hi, hz0, hz1, hz2⟩ := info_parts info_range
  have hsz := H.2.size
  obtain ⟨cs, hcs, hmy, hA⟩ := hy.rows
  have hcl := hcs.len
  obtain rfl := rws_cells hcs
  have fin : ∀ v' w', w'.ownsRow w0.heap.size 46 2 v' (xs.length + m) (rcells xs ++ rcells ys) → w.grownBy w' v.ownBlock → K (a.put o.dst v') w' := by
    intro v' w' h2 h3
    obtain ⟨A, c', rfl⟩ := owns_slice h2
    refine h A c' w' ⟨?_, ?_⟩ (.of h3)
    · rw [rcells_append, List.length_append, ← hmy]; exact h2
    · exact Below.grown H.2 h3 hsz (fun g hg => (H.1.lt g hg).1)
  cases B with
  | none =>
    obtain rfl : m = 0 := by
      rcases hA with h | ⟨b, o, e, -⟩
      · exact h
      · cases e
    have hd : rcells ys = [] := List.eq_nil_of_length_eq_zero (by rw [hcl, ← hmy])
    have hrun := Go.Proofs.Ytilgmkhcpmegjaa.Tk.run_append_nil (P := Try.prog) (ty := o.type) Try.underlying43 hi H.1 d
    unfold Oper.wp execOp
    simp only [ho, resolve, invoke, builtin, Sem.run_bind, Sem.run_pure, Result.andThen_ok, List.map_toArray, List.map_cons, List.map_nil, hs, hx, hrun]
    exact fin v w (by rw [hd, List.append_nil]; exact H.1) (World.grownBy.refl w _)
  | some ad =>
    refine wp_append_at w s x 43 ho w0.heap.size 46 i0 (.agg #[.int .i64 0, .int .i64 0]) 2 16 Try.underlying43 hi hz0 hz1 hz2 rfl (by decide) v xs.length (rcells xs) hs H.1 ad m d (rcells ys) hx (by rw [hcl, ← hmy]) ?_ ?_ ?_ ?_ hsz
      fun v' w' h2 h3 h4 => fin v' w' h2 h3
    · intro j u hj
      rcases hA with rfl | ⟨b, o, e1, e2⟩
      · have hd : rcells ys = [] := List.eq_nil_of_length_eq_zero (by rw [hcl, ← hmy])
        rw [hd] at hj
        simp at hj
      · injection e1 with e1
        subst e1
        rw [Go.Proofs.Ytilgmkhcpmegjaa.Tk.add_at]
        exact e2 j u hj
    · exact (rcells_rws w ys).one fun x u hu y hy => by
        unfold QR at hu; subst hu
        simp only [List.mem_cons, List.not_mem_nil, or_false] at hy
        rcases hy with rfl | rfl <;> rfl
    · unfold maxLen; omega
    · omega
theorem wpList_appIn {w0 w : World} {v : Value} {xs ys : List Rn} {B : Option Addr} {m d : Nat} (H : Rw w0 w v xs) (hl : xs.length ≤ 9000000) (hy : Sl 2 QR w (.slice B m d) ys) (hm : m ≤ 9000000)
    {ops : Array Oper} {rest : List Oper} {o : Oper} {a : Act} {Q : Exit → Act → World → Prop} (hw : Region.wanted o (yielded ops a.tmps) = true) (s x : Operand)
    (ho : o.op = .call { callee := .builtin .append, args := #[s, x], argTypes := #[43, 43] }) (hs : a.eval s = v) (hx : a.eval x = .slice B m d)
    (h : ∀ A c w', Rw w0 w' (.slice A (xs.length + m) c) (xs ++ ys) → Keep v w w' → wpList Try.prog ops Q rest (a.put o.dst (.slice A (xs.length + m) c)) w') : wpList Try.prog ops Q (o :: rest) a w :=
  BigFrame.wpList_want hw fun K hK => wp_appIn H hl hy hm s x ho hs hx fun A c w' h1 h2 => hK _ _ (h A c w' h1 h2)
/-- a block ahead of a row's base stays while the row turns -/
theorem bx_grown {base : Nat} {w w' : World} {v : Value} {n : Nat} {cs : List Value} {b : Nat} {us : Array Value} {t : TypeId} (H : w.ownsRow base 46 2 v n cs) (h : Bx w b us t) (hb : b < base) (k : w.grownBy w' v.ownBlock) : Bx w' b us t :=
  Keep.of k b us t h fun e => by have := (H.lt _ e).1; omega
end Go.Proofs.Ytilgmkhcpmegjaa.Zs
end
section
namespace Go.Proofs.Ytilgmkhcpmegjaa.Tr
open Go.RowKit
open Go.Proofs.Ytilgmkhcpmegjaa.Dig Go.Proofs.Ytilgmkhcpmegjaa.Lx Go.Proofs.Ytilgmkhcpmegjaa.Tk Go.Proofs.Ytilgmkhcpmegjaa.Ti Go.Proofs.Ytilgmkhcpmegjaa.Zs
set_option maxHeartbeats 2000000 in
theorem rclone_any (v : Value) (l : List Rn) (w : World) (h : Sl 2 QR w v l) (hl : l.length ≤ 1100000) :
    Calls Try.prog 102 #[v] w (RetF l w) := by
  have under := Try.underlying43
  have q22 : ∀ (w : World) (a : Option Addr) (n c n' c' : Nat), (binOp .eql 43 (.slice a n c) (.slice none n' c')).run Try.prog w = .ok (.bool a.isNone) w := fun w a n c n' c' => Lib.run_eql_slice_nil w _ _ a n c n' c' under
  obtain ⟨A, c, rfl⟩ := h.form
  obtain ⟨n, hn⟩ : ∃ n, n = l.length := ⟨_, rfl⟩
  rw [← hn] at h hl ⊢
  have H := Lib.hid h
  have HN := Lib.hid hn
  clear h hn
  cases A with
  | none =>
    have E := Lib.hid (show l = [] by
      apply List.eq_nil_of_length_eq_zero
      apply Decidable.byContradiction
      intro hne
      obtain ⟨A', c', e, h1, h2⟩ := H.out
      obtain ⟨b, o, e2, -⟩ := h2 (by omega)
      injection e with e3
      rw [e2] at e3; cases e3)
    go_enter Try.func102, Try.ntmps102
    go_wp2
    go_ret
    exact .none E.out (Since.refl _)
  | some a =>
    have R0 := Lib.hid (show Rw w (w.alloc (.cells #[] 46)) (.slice (some ⟨w.heap.size, 0, none⟩) 0 0) [] from ⟨World.ownsRow_made w #[] 0 (Nat.le_refl _) (Nat.zero_le _) rfl, since_alloc _ _⟩)
    go_enter Try.func102, Try.ntmps102
    go_wp2_with (at_builtin; refine wpList_appIn R0.out (Nat.zero_le _) (H.out.since stR (since_alloc _ _)) (by omega) (by rfl) _ _ rfl rfl rfl ?_; intro A2 c2 w2 h2 h3)
    go_ret
    have e : ([] : List Rn).length + n = n := Nat.zero_add n
    rw [List.nil_append, e] at h2
    exact .of rfl HN.out.symm h2
/-- domains that lie in memory of the call's own (from w1 on), and not in the row R -/
def NewD (w1 : World) (R : Value) (w : World) (d : List Rn) (u : List Value) : Prop := ∃ v, u = [v] ∧ Sl 2 QR w v d ∧ ∀ b, v.ownBlock = some b → w1.heap.size ≤ b ∧ b < w.heap.size ∧ R.ownBlock ≠ some b ∧ ∀ j, w.frozen? ⟨b, j, none⟩ = false
theorem NewD.since {w1 w w' : World} {R : Value} {d : List Rn} {u : List Value} (h : NewD w1 R w d u) (k : Since w w') : NewD w1 R w' d u := by
  obtain ⟨v, h1, h2, h3⟩ := h
  exact ⟨v, h1, h2.since stR k, fun b hb => ⟨(h3 b hb).1, Nat.lt_of_lt_of_le (h3 b hb).2.1 k.size, (h3 b hb).2.2.1, fun j => (World.frozen?_of_block (w := w) (a := ⟨b, j, none⟩) (k.block b (h3 b hb).2.1)).trans ((h3 b hb).2.2.2 j)⟩⟩
theorem NewD.app {w1 w w' : World} {R R' : Value} {d : List Rn} {u : List Value} (h : NewD w1 R w d u) (k : Wide R R' w w') : NewD w1 R' w' d u := by
  obtain ⟨v, h1, h2, h3⟩ := h
  refine ⟨v, h1, Sl.kept (G := fun b => R.ownBlock = some b) (Q := QR) (Q' := QR) k.1 (fun b hb => hb) (fun _ _ h => h) h2 ?_, fun b hb => ⟨(h3 b hb).1, Nat.lt_of_lt_of_le (h3 b hb).2.1 k.1.size, fun e => ?_, fun j => (World.frozen?_of_block (w := w) (a := ⟨b, j, none⟩) (k.1.block b (h3 b hb).2.1 (fun e => (h3 b hb).2.2.1 e.symm))).trans ((h3 b hb).2.2.2 j)⟩⟩
  · rintro b o n c rfl hn e
    exact (h3 b rfl).2.2.1 e
  · rcases k.2 with e2 | e2
    · exact (h3 b hb).2.2.1 (e2 ▸ e)
    · rw [e] at e2
      injection e2 with e2
      have := (h3 b hb).2.1
      omega
end Go.Proofs.Ytilgmkhcpmegjaa.Tr
end
