/- Layer 11 (sense), pure: a list moved place by place. Layer 11 (sense): the document's own values, count, claus -/
import Derived.Test.YtalcgjkegohhgaaKf
import Derived.Test.YtalcgjkegohhgaaQao
import Derived.Lib.SliceRun
set_option linter.unusedVariables false
set_option linter.unusedSimpArgs false
section
namespace Go.Proofs.Ytalcgjkegohhgaa.Sn
open Go.RowKit
open Go.Proofs.Ytalcgjkegohhgaa.Dig Go.Proofs.Ytalcgjkegohhgaa.Lx Go.Proofs.Ytalcgjkegohhgaa.Tk Go.Proofs.Ytalcgjkegohhgaa.Ti Go.Proofs.Ytalcgjkegohhgaa.Zs Go.Proofs.Ytalcgjkegohhgaa.Tr
section
open Go.Proofs.Ytalcgjkegohhgaa.Zs
section
open Go.RowKit
open Go.Proofs.Ytalcgjkegohhgaa.Dig Go.Proofs.Ytalcgjkegohhgaa.Lx Go.Proofs.Ytalcgjkegohhgaa.Tk Go.Proofs.Ytalcgjkegohhgaa.Ti Go.Proofs.Ytalcgjkegohhgaa.Zs Go.Proofs.Ytalcgjkegohhgaa.Tr
def Rz (e : TypeId) (n : Nat) (w : World) (v : Value) (xs : List Int) : Prop := ∃ cs, w.ownsRow n e 1 v xs.length cs ∧ Rws 1 QI0 xs cs
theorem Rz.of {e : TypeId} {w1 w : World} {v : Value} {xs : List Int} (h : Rq e QI0 w1 w v xs) : Rz e w1.heap.size w v xs := by
  obtain ⟨cs, h1, h2, -⟩ := h
  exact ⟨cs, h1, h2⟩
theorem Rz.set {e : TypeId} {n : Nat} {w : World} {v : Value} {xs : List Int} (h : Rz e n w v xs) {a : Addr} (ha : a.block < n) (u : Value) : Rz e n (w.setCell a u) v xs := by
  obtain ⟨cs, h1, h2⟩ := h
  exact ⟨cs, ownsRow_setCell_below h1 ha u, h2⟩
theorem Rz.since {e : TypeId} {n : Nat} {w w' : World} {v : Value} {xs : List Int} (h : Rz e n w v xs) (k : Since w w') : Rz e n w' v xs := by
  obtain ⟨cs, h1, h2⟩ := h
  exact ⟨cs, owns_since h1 k, h2⟩
theorem Rz.sl {e : TypeId} {n : Nat} {w : World} {v : Value} {xs : List Int} (h : Rz e n w v xs) : Sl 1 QI w v xs := by
  obtain ⟨cs, h1, h2⟩ := h
  have : Sl 1 (fun _ => QI0) w v xs := Sl.own h1 h2 rfl
  exact this
def Rb (w0 w : World) (v : Value) (xs : List Int) : Prop := ∃ b1, Since w0 b1 ∧ Rq 2 QI0 b1 w v xs
theorem Rb.since {w0 w w' : World} {v : Value} {xs : List Int} (h : Rb w0 w v xs) (k : Since w w') : Rb w0 w' v xs := by
  obtain ⟨b1, h1, h2⟩ := h
  exact ⟨b1, h1, h2.since k⟩
end
end
end Go.Proofs.Ytalcgjkegohhgaa.Sn
end
section
namespace Go.Proofs.Ytalcgjkegohhgaa.Sn
open Go.RowKit
open Go.Proofs.Ytalcgjkegohhgaa.Dig Go.Proofs.Ytalcgjkegohhgaa.Lx Go.Proofs.Ytalcgjkegohhgaa.Tk Go.Proofs.Ytalcgjkegohhgaa.Ti Go.Proofs.Ytalcgjkegohhgaa.Zs Go.Proofs.Ytalcgjkegohhgaa.Tr
theorem vals_snoc2 {x a : List Int} {j : Nat} (h : j < x.length) : vals (x.take j) a ++ [valAt a x[j]] = vals (x.take (j + 1)) a := by
  rw [List.take_succ_eq_append_getElem h, vals, vals, List.map_append]; rfl
set_option maxRecDepth 20000 in
set_option maxHeartbeats 3000000 in
theorem rvalues_any (v va : Value) (c : Cn) (a : List Int) (w : World) (h : ConAt w v c) (ha : Sl 1 QI w va a) (hx : c.x.length ≤ 100000) (hin : inR c.x a = true) :
    Calls Try.prog 76 #[v, va] w (fun e w' => ∃ B bc, e = .returned (.slice B c.x.length bc) ∧ Rq 2 QI0 w w' (.slice B c.x.length bc) (vals c.x a)) := by
  obtain ⟨vx, vy, rfl, h1, h2⟩ := h
  obtain ⟨ck, cx, ca, cc⟩ := c
  simp only at h1 h2 hx hin ⊢
  obtain ⟨X, xc, rfl⟩ := h1.form
  obtain ⟨Y, yc, rfl⟩ := h2.form
  obtain ⟨A, ac, rfl⟩ := ha.form
  obtain ⟨nx, hnx⟩ : ∃ n, n = cx.length := ⟨_, rfl⟩
  obtain ⟨na, hna⟩ : ∃ n, n = ca.length := ⟨_, rfl⟩
  obtain ⟨nl, hnl⟩ : ∃ n, n = a.length := ⟨_, rfl⟩
  rw [← hnx] at h1 hx ⊢
  rw [← hna] at h2 ⊢
  rw [← hnl] at ha ⊢
  have H1 := Lib.hid h1
  have H3 := Lib.hid ha
  have HNX := Lib.hid hnx
  have HNL := Lib.hid hnl
  have HIN := Lib.hid hin
  obtain ⟨w0, hw0⟩ : ∃ w0, w0 = w.alloc (.cells #[.int .i64 ck, .slice X nx xc, .slice Y na yc, .int .i64 cc] 58) := ⟨_, rfl⟩
  have ka := Lib.hid (show Since w w0 by rw [hw0]; exact since_alloc w _)
  have BC := Lib.hid (show Bx w0 w.heap.size #[.int .i64 ck, .slice X nx xc, .slice Y na yc, .int .i64 cc] 58 by rw [hw0]; exact Bx.fresh w _ _)
  have HW0 := Lib.hid hw0
  clear h1 h2 ha hnx hna hnl hin hw0
  go_enter Try.func76, Try.ntmps76
  go_wp2
  rw [← HW0.out]
  clear HW0
  go_loopw [5, 6] (fun s i wr => ∃ (j : Nat) (B : Option Addr) (bc : Nat), i = .int .i64 (j : Int) ∧ s = .slice B j bc ∧ j ≤ nx ∧ Hid (Rq 2 QI0 w0 wr (.slice B j bc) (vals (cx.take j) a))) (fun _ i _ => nx - (intOf i).toNat)
  case atStart => exact ⟨0, none, 0, rfl, rfl, Nat.zero_le _, Rq.nil _ _ (Since.refl _)⟩
  case round =>
    obtain ⟨j, B, bc, rfl, rfl, hj, HQ⟩ := hrel
    obtain ⟨b0, b1, b2, b3⟩ := bx4 (BC.out.since HQ.out.s)
    by_cases hjn : j < nx
    · have hjx : j < cx.length := by have := HNX.out; omega
      obtain ⟨g, o, rfl, e0⟩ := elI (H1.out.since stI (ka.out.trans HQ.out.s)) hjx
      have hin := List.all_eq_true.1 HIN.out _ (List.getElem_mem hjx)
      have hs := vals_snoc2 (a := a) hjx
      generalize cx[j] = y at *
      obtain ⟨q, rfl, hq⟩ := isV_nat hin
      obtain ⟨g2, o2, rfl, e2⟩ := elI (H3.out.since stI (ka.out.trans HQ.out.s)) hq
      have hva : valAt a (q : Int) = a[q] := by simp [valAt, hq]
      rw [hva] at hs
      have hqn : q < nl := by have := HNL.out; omega
      generalize a[q] = z at *
      have HS := Lib.hid hs
      have HLJ := Lib.hid (show (vals (cx.take j) a).length = j by rw [vals_len, List.length_take]; omega)
      have HLX := Lib.hid (show (vals (cx.take j) a).length ≤ 1000000 by rw [HLJ.out]; omega)
      clear hs hva hin hjx
      go_wp2_with (at_builtin; refine wpList_appQ nL (HQ.out.since (since_alloc _ _)) HLX.out z (.int .i64 z) rfl rfl wr.heap.size 1 ((Bx.fresh wr _ _).cell 0) (by rfl) _ _ rfl rfl rfl ?_; rw [HLJ.out]; intro A2 c2 w6 h2 q2; have H2 := Lib.hid h2; clear h2 q2)
      go_roundw
      case rel => exact ⟨j + 1, A2, c2, by go_num, by first | rfl | go_num, by omega, by rw [HS.out] at H2; exact H2⟩
      case measure => simp [intOf]; omega
    · obtain rfl : nx = j := by omega
      have HT := Lib.hid (show cx.take nx = cx from List.take_of_length_le (by have := HNX.out; omega))
      go_wp2
      go_ret
      exact ⟨_, _, rfl, by have := HQ.out; rw [HT.out] at this; obtain ⟨cs, h1, h2, h3⟩ := this; exact ⟨cs, ⟨h1.1, h1.2.imp id fun ⟨g, cap, cur, e1, e2, e3⟩ => ⟨g, cap, cur, e1, Nat.le_trans ka.out.size e2, e3⟩⟩, h2, ka.out.trans h3⟩⟩
end Go.Proofs.Ytalcgjkegohhgaa.Sn
end
section
namespace Go.Proofs.Ytalcgjkegohhgaa.Zs
open Go.RowKit
open Go.Proofs.Ytalcgjkegohhgaa.Dig Go.Proofs.Ytalcgjkegohhgaa.Lx Go.Proofs.Ytalcgjkegohhgaa.Tk Go.Proofs.Ytalcgjkegohhgaa.Ti
theorem rws_cells {w : World} {l : List Rn} {cs : List Value} (h : Rws 2 (QR w) l cs) : cs = rcells l := by
  induction h with
  | nil => rfl
  | snoc h k l ih => rw [rcells_snoc, ih]; unfold QR at k; rw [k]
theorem rcells_append (a c : List Rn) : rcells (a ++ c) = rcells a ++ rcells c := by simp [rcells]
set_option maxRecDepth 20000 in
theorem wp_appIn {w0 w : World} {v : Value} {xs ys : List Rn} {B : Option Addr} {m d : Nat} (H : Rw w0 w v xs) (hl : xs.length ≤ 9000000) (hy : Sl 2 QR w (.slice B m d) ys) (hm : m ≤ 9000000)
    {o : Oper} {a : Act} {K : Act → World → Prop} {Q : Exit → Act → World → Prop} (s x : Operand)
    (ho : o.op = .call { callee := .builtin .append, args := #[s, x], argTypes := #[33, 33] }) (hs : a.eval s = v) (hx : a.eval x = .slice B m d)
    (h : ∀ A c w', Rw w0 w' (.slice A (xs.length + m) c) (xs ++ ys) → Keep v w w' → K (a.put o.dst (.slice A (xs.length + m) c)) w') : o.wp Try.prog a w K Q := by
  obtain ⟨i0, hi, hz0, hz1, hz2⟩ := info_parts info_range
  have hsz := H.2.size
  obtain ⟨cs, hcs, hmy, hA⟩ := hy.rows
  have hcl := hcs.len
  obtain rfl := rws_cells hcs
  have fin : ∀ v' w', w'.ownsRow w0.heap.size 78 2 v' (xs.length + m) (rcells xs ++ rcells ys) → w.grownBy w' v.ownBlock → K (a.put o.dst v') w' := by
    intro v' w' h2 h3
    obtain ⟨A, c', rfl⟩ := owns_slice h2
    refine h A c' w' ⟨?_, ?_⟩ (.of h3)
    · rw [rcells_append, List.length_append, ← hmy]; exact h2
    · exact Below.grown H.2 h3 hsz (fun g hg => (H.1.lt g hg).1)
  cases B with
  | none =>
    obtain rfl : m = 0 := by
      rcases hA with h | ⟨b, o, e, -⟩
      · exact h
      · cases e
    have hd : rcells ys = [] := List.eq_nil_of_length_eq_zero (by rw [hcl, ← hmy])
    have hrun := Go.Proofs.Ytalcgjkegohhgaa.Tk.run_append_nil (P := Try.prog) (ty := o.type) Try.underlying33 hi H.1 d
    unfold Oper.wp execOp
    simp only [ho, resolve, invoke, builtin, Sem.run_bind, Sem.run_pure, Result.andThen_ok, List.map_toArray, List.map_cons, List.map_nil, hs, hx, hrun]
    exact fin v w (by rw [hd, List.append_nil]; exact H.1) (World.grownBy.refl w _)
  | some ad =>
    refine wp_append_at w s x 33 ho w0.heap.size 78 i0 (.agg #[.int .i64 0, .int .i64 0]) 2 16 Try.underlying33 hi hz0 hz1 hz2 rfl (by decide) v xs.length (rcells xs) hs H.1 ad m d (rcells ys) hx (by rw [hcl, ← hmy]) ?_ ?_ ?_ ?_ hsz
      fun v' w' h2 h3 h4 => fin v' w' h2 h3
    · intro j u hj
      rcases hA with rfl | ⟨b, o, e1, e2⟩
      · have hd : rcells ys = [] := List.eq_nil_of_length_eq_zero (by rw [hcl, ← hmy])
        rw [hd] at hj
        simp at hj
      · injection e1 with e1
        subst e1
        rw [Go.Proofs.Ytalcgjkegohhgaa.Tk.add_at]
        exact e2 j u hj
    · exact (rcells_rws w ys).one fun x u hu y hy => by
        unfold QR at hu; subst hu
        simp only [List.mem_cons, List.not_mem_nil, or_false] at hy
        rcases hy with rfl | rfl <;> rfl
    · unfold maxLen; omega
    · omega
theorem wpList_appIn {w0 w : World} {v : Value} {xs ys : List Rn} {B : Option Addr} {m d : Nat} (H : Rw w0 w v xs) (hl : xs.length ≤ 9000000) (hy : Sl 2 QR w (.slice B m d) ys) (hm : m ≤ 9000000)
    {ops : Array Oper} {rest : List Oper} {o : Oper} {a : Act} {Q : Exit → Act → World → Prop} (hw : Region.wanted o (yielded ops a.tmps) = true) (s x : Operand)
    (ho : o.op = .call { callee := .builtin .append, args := #[s, x], argTypes := #[33, 33] }) (hs : a.eval s = v) (hx : a.eval x = .slice B m d)
    (h : ∀ A c w', Rw w0 w' (.slice A (xs.length + m) c) (xs ++ ys) → Keep v w w' → wpList Try.prog ops Q rest (a.put o.dst (.slice A (xs.length + m) c)) w') : wpList Try.prog ops Q (o :: rest) a w :=
  BigFrame.wpList_want hw fun K hK => wp_appIn H hl hy hm s x ho hs hx fun A c w' h1 h2 => hK _ _ (h A c w' h1 h2)
/-- a block ahead of a row's base stays while the row turns -/
theorem bx_grown {base : Nat} {w w' : World} {v : Value} {n : Nat} {cs : List Value} {b : Nat} {us : Array Value} {t : TypeId} (H : w.ownsRow base 78 2 v n cs) (h : Bx w b us t) (hb : b < base) (k : w.grownBy w' v.ownBlock) : Bx w' b us t :=
  Keep.of k b us t h fun e => by have := (H.lt _ e).1; omega
end Go.Proofs.Ytalcgjkegohhgaa.Zs
end
section
namespace Go.Proofs.Ytalcgjkegohhgaa.Tr
open Go.RowKit
open Go.Proofs.Ytalcgjkegohhgaa.Dig Go.Proofs.Ytalcgjkegohhgaa.Lx Go.Proofs.Ytalcgjkegohhgaa.Tk Go.Proofs.Ytalcgjkegohhgaa.Ti Go.Proofs.Ytalcgjkegohhgaa.Zs
set_option maxHeartbeats 2000000 in
theorem rclone_any (v : Value) (l : List Rn) (w : World) (h : Sl 2 QR w v l) (hl : l.length ≤ 1100000) :
    Calls Try.prog 69 #[v] w (RetF l w) := by
  have under := Try.underlying33
  have q22 : ∀ (w : World) (a : Option Addr) (n c n' c' : Nat), (binOp .eql 33 (.slice a n c) (.slice none n' c')).run Try.prog w = .ok (.bool a.isNone) w := fun w a n c n' c' => Lib.run_eql_slice_nil w _ _ a n c n' c' under
  obtain ⟨A, c, rfl⟩ := h.form
  obtain ⟨n, hn⟩ : ∃ n, n = l.length := ⟨_, rfl⟩
  rw [← hn] at h hl ⊢
  have H := Lib.hid h
  have HN := Lib.hid hn
  clear h hn
  cases A with
  | none =>
    have E := Lib.hid (show l = [] by
      apply List.eq_nil_of_length_eq_zero
      apply Decidable.byContradiction
      intro hne
      obtain ⟨A', c', e, h1, h2⟩ := H.out
      obtain ⟨b, o, e2, -⟩ := h2 (by omega)
      injection e with e3
      rw [e2] at e3; cases e3)
    go_enter Try.func69, Try.ntmps69
    go_wp2
    go_ret
    exact .none E.out (Since.refl _)
  | some a =>
    have R0 := Lib.hid (show Rw w (w.alloc (.cells #[] 78)) (.slice (some ⟨w.heap.size, 0, none⟩) 0 0) [] from ⟨World.ownsRow_made w #[] 0 (Nat.le_refl _) (Nat.zero_le _) rfl, since_alloc _ _⟩)
    go_enter Try.func69, Try.ntmps69
    go_wp2_with (at_builtin; refine wpList_appIn R0.out (Nat.zero_le _) (H.out.since stR (since_alloc _ _)) (by omega) (by rfl) _ _ rfl rfl rfl ?_; intro A2 c2 w2 h2 h3)
    go_ret
    have e : ([] : List Rn).length + n = n := Nat.zero_add n
    rw [List.nil_append, e] at h2
    exact .of rfl HN.out.symm h2
/-- domains that lie in memory of the call's own (from w1 on), and not in the row R -/
def NewD (w1 : World) (R : Value) (w : World) (d : List Rn) (u : List Value) : Prop := ∃ v, u = [v] ∧ Sl 2 QR w v d ∧ ∀ b, v.ownBlock = some b → w1.heap.size ≤ b ∧ b < w.heap.size ∧ R.ownBlock ≠ some b ∧ ∀ j, w.frozen? ⟨b, j, none⟩ = false
theorem NewD.since {w1 w w' : World} {R : Value} {d : List Rn} {u : List Value} (h : NewD w1 R w d u) (k : Since w w') : NewD w1 R w' d u := by
  obtain ⟨v, h1, h2, h3⟩ := h
  exact ⟨v, h1, h2.since stR k, fun b hb => ⟨(h3 b hb).1, Nat.lt_of_lt_of_le (h3 b hb).2.1 k.size, (h3 b hb).2.2.1, fun j => (World.frozen?_of_block (w := w) (a := ⟨b, j, none⟩) (k.block b (h3 b hb).2.1)).trans ((h3 b hb).2.2.2 j)⟩⟩
theorem NewD.app {w1 w w' : World} {R R' : Value} {d : List Rn} {u : List Value} (h : NewD w1 R w d u) (k : Wide R R' w w') : NewD w1 R' w' d u := by
  obtain ⟨v, h1, h2, h3⟩ := h
  refine ⟨v, h1, Sl.kept (G := fun b => R.ownBlock = some b) (Q := QR) (Q' := QR) k.1 (fun b hb => hb) (fun _ _ h => h) h2 ?_, fun b hb => ⟨(h3 b hb).1, Nat.lt_of_lt_of_le (h3 b hb).2.1 k.1.size, fun e => ?_, fun j => (World.frozen?_of_block (w := w) (a := ⟨b, j, none⟩) (k.1.block b (h3 b hb).2.1 (fun e => (h3 b hb).2.2.1 e.symm))).trans ((h3 b hb).2.2.2 j)⟩⟩
  · rintro b o n c rfl hn e
    exact (h3 b rfl).2.2.1 e
  · rcases k.2 with e2 | e2
    · exact (h3 b hb).2.2.1 (e2 ▸ e)
    · rw [e] at e2
      injection e2 with e2
      have := (h3 b hb).2.1
      omega
end Go.Proofs.Ytalcgjkegohhgaa.Tr
end
