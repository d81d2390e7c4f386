/- Layer 9 (set): ranges as they lie in memory; Right, the landed one and the document's. -/
import Derived.Deep.DeepCutAuto
import Derived.Deep.RegionHeld3
import Derived.Test.YtilgmkhcpmegjaaQae
namespace Go.Proofs.Ytilgmkhcpmegjaa.Zs
open Go.RowKit
set_option linter.unusedVariables false
set_option linter.unusedSimpArgs false
open Go.Proofs.Ytilgmkhcpmegjaa.Dig Go.Proofs.Ytilgmkhcpmegjaa.Lx Go.Proofs.Ytilgmkhcpmegjaa.Tk Go.Proofs.Ytilgmkhcpmegjaa.Ti
/-- ranges of 64 bits -/
def Bd (l : List Rn) : Prop := ∀ r ∈ l, fits r.1 ∧ fits r.2
theorem okF_bd {b : Int} {l : List Rn} (h : okF b l = true) (hb : -mx ≤ b) : Bd l := fun r hr => by
  have := full_right h hb r hr
  simp only [fits, mx] at *
  omega
theorem drop_at {l : List Rn} {k : Nat} (h : k < l.length) : l.drop k = l[k] :: l.drop (k + 1) := List.drop_eq_getElem_cons h
theorem okF_no1 {b : Int} {r : Rn} {l : List Rn} (h : r.1 < b) : okF b (r :: l) = false := by
  cases h2 : okF b (r :: l) with
  | false => rfl
  | true => rw [okF_cons] at h2; omega
theorem okF_no2 {b : Int} {r : Rn} {l : List Rn} (h : r.1 > r.2) : okF b (r :: l) = false := by
  cases h2 : okF b (r :: l) with
  | false => rfl
  | true => rw [okF_cons] at h2; omega
theorem okF_no3 {b : Int} {r : Rn} {l : List Rn} (h : r.2 > mx) : okF b (r :: l) = false := by
  cases h2 : okF b (r :: l) with
  | false => rfl
  | true => rw [okF_cons] at h2; omega
theorem okF_yes {b : Int} {r : Rn} {l : List Rn} (h1 : ¬ r.1 < b) (h2 : ¬ r.1 > r.2) (h3 : ¬ r.2 > mx) : okF b (r :: l) = okF (r.2 + 2) l := by
  rw [okF, show decide (b ≤ r.1) = true by simp; omega, show decide (r.1 ≤ r.2) = true by simp; omega, show decide (r.2 ≤ mx) = true by simp only [decide_eq_true_eq]; omega]; rfl
/-- ends in a truth value -/
def RetT (r : Bool) (w : World) (e : Ending) (w' : World) : Prop := e = .returned (.bool r) ∧ Since w w'
theorem RetT.of {r r' : Bool} {w w' : World} (h : r = r') (k : Since w w') : RetT r' w (.returned (.bool r)) w' := ⟨by rw [h], k⟩
/-- the cells of ranges -/
def rcells (l : List Rn) : List Value := l.flatMap fun r => [.int .i64 r.1, .int .i64 r.2]
theorem rcells_snoc (l : List Rn) (r : Rn) : rcells (l ++ [r]) = rcells l ++ [.int .i64 r.1, .int .i64 r.2] := by simp [rcells]
theorem rcells_rws (w : World) : ∀ l : List Rn, Rws 2 (QR w) l (rcells l)
  | [] => .nil
  | r :: l => by
    have h : Rws 2 (QR w) ([] ++ [r]) ([] ++ [.int .i64 r.1, .int .i64 r.2]) := Rws.snoc .nil rfl rfl
    exact h.append (rcells_rws w l)
/-- a row of the call's own (begun at w0) holds these ranges; nothing else has turned -/
def Rw (w0 w : World) (v : Value) (xs : List Rn) : Prop := w.ownsRow w0.heap.size 46 2 v xs.length (rcells xs) ∧ Since w0 w
theorem Rw.nil {w0 w : World} (h : Since w0 w) : Rw w0 w (.slice none 0 0) [] := ⟨World.ownsRow_nil _ _ _ _, h⟩
theorem Rw.since {w0 w w' : World} {v : Value} {xs : List Rn} (h : Rw w0 w v xs) (k : Since w w') : Rw w0 w' v xs := ⟨owns_since h.1 k, h.2.trans k⟩
theorem Rw.sl {w0 w : World} {v : Value} {xs : List Rn} (h : Rw w0 w v xs) : Sl 2 QR w v xs := Sl.own h.1 (rcells_rws w xs) rfl
theorem Rw.form {w0 w : World} {v : Value} {xs : List Rn} (h : Rw w0 w v xs) : ∃ A c, v = .slice A xs.length c := h.sl.form
theorem info_range : (Try.prog.info? 46).map (fun i => (i.zero, i.size, i.bytes)) = some (some (.agg #[.int .i64 0, .int .i64 0]), 2, 16) := by kernel_rfl
/-- blocks other than the row's are as they were -/
def Keep (v : Value) (W w' : World) : Prop := ∀ b cs t, Bx W b cs t → v.ownBlock ≠ some b → Bx w' b cs t
theorem Keep.refl (v : Value) (W : World) : Keep v W W := fun b cs t h _ => h
theorem Keep.pre {v : Value} {W W1 w' : World} (k : Since W W1) (h : Keep v W1 w') : Keep v W w' := fun b cs t h1 h2 => h b cs t (h1.since k) h2
theorem Keep.of {v : Value} {W w' : World} (h : W.grownBy w' v.ownBlock) : Keep v W w' := fun b cs t h1 h2 => by
  have hl : b < W.heap.size := by
    unfold Bx at h1
    apply Decidable.byContradiction; intro hn
    rw [Array.getElem?_eq_none (by omega)] at h1; cases h1
  unfold Bx at *
  rw [h.block b hl (fun e => h2 e.symm)]; exact h1
/-- a block that was laid behind the row -/
theorem Keep.box {w0 wr w' : World} {v : Value} {xs : List Rn} {cs : Array Value} {t : TypeId} (H : Rw w0 wr v xs) (k : Keep v (wr.alloc (.cells cs t)) w') : Bx w' wr.heap.size cs t :=
  k _ _ _ (Bx.fresh wr cs t) fun e => by have := (H.1.lt _ e).2; omega
/-- an append of one range -/
theorem wpList_app {w0 w : World} {v : Value} {xs : List Rn} (H : Rw w0 w v xs) (hl : xs.length ≤ 9000000) (r : Rn) (g c : Nat) (h0 : w.cell? ⟨g, 0, none⟩ = some (.int .i64 r.1)) (h1 : w.cell? ⟨g, 1, none⟩ = some (.int .i64 r.2))
    {ops : Array Oper} {rest : List Oper} {o : Oper} {a : Act} {Q : Exit → Act → World → Prop} (hw : Region.wanted o (yielded ops a.tmps) = true) (s x : Operand)
    (ho : o.op = .call { callee := .builtin .append, args := #[s, x], argTypes := #[43, 43] }) (hs : a.eval s = v) (hx : a.eval x = .slice (some ⟨g, 0, none⟩) 1 c)
    (h : ∀ A c w', Rw w0 w' (.slice A (xs.length + 1) c) (xs ++ [r]) → Keep v w w' → wpList Try.prog ops Q rest (a.put o.dst (.slice A (xs.length + 1) c)) w') : wpList Try.prog ops Q (o :: rest) a w := by
  obtain ⟨i0, hi, hz0, hz1, hz2⟩ := info_parts info_range
  have hsz := H.2.size
  refine BigFrame.wpList_want hw fun K hK => ?_
  refine wp_append_at w s x 43 ho w0.heap.size 46 i0 (.agg #[.int .i64 0, .int .i64 0]) 2 16 Try.underlying43 hi hz0 hz1 hz2 rfl (by decide) v xs.length (rcells xs) hs H.1 ⟨g, 0, none⟩ 1 c [.int .i64 r.1, .int .i64 r.2] hx rfl ?_ ?_ ?_ ?_ hsz fun v' w' h2 h3 h4 => ?_
  · intro j u hj
    rw [add_at, Nat.zero_add]
    match j, hj with
    | 0, hj => cases hj; exact h0
    | 1, hj => cases hj; exact h1
    | j + 2, hj => simp at hj
  · intro u hu; simp at hu; rcases hu with rfl | rfl <;> rfl
  · unfold maxLen; omega
  · omega
  · obtain ⟨A, c', rfl⟩ := owns_slice h2
    refine hK _ _ (h A c' w' ⟨?_, ?_⟩ (.of h3))
    · rw [rcells_snoc, List.length_append]; exact h2
    · exact Below.grown H.2 h3 hsz (fun g hg => (H.1.lt g hg).1)
set_option maxRecDepth 20000 in
set_option maxHeartbeats 1000000 in
theorem right_any (v : Value) (l : List Rn) (w : World) (h : Sl 2 QR w v l) (hl : l.length ≤ 1100000) (hb : Bd l) :
    Calls Try.prog 94 #[v] w (RetT (right l) w) := by
  obtain ⟨A, c, rfl⟩ := h.form
  obtain ⟨n, hn⟩ : ∃ n, n = l.length := ⟨_, rfl⟩
  rw [← hn] at h hl ⊢
  have H := Lib.hid h
  have HN := Lib.hid hn
  have HB := Lib.hid hb
  obtain ⟨R, hR⟩ : ∃ R, R = right l := ⟨_, rfl⟩
  rw [← hR]
  have HR := Lib.hid hR
  clear h hn hb hR
  go_enter Try.func94, Try.ntmps94
  go_wp2
  go_loopw [3, 8] (fun s i wr => ∃ (k : Nat) (b : Int), i = .int .i64 (k : Int) ∧ s = .int .i64 b ∧ k ≤ n ∧ -1048576 ≤ b ∧ b ≤ 1048578 ∧ Hid (okF b (l.drop k) = R) ∧ Hid (Since w wr)) (fun _ i _ => n - (intOf i).toNat)
  case atStart => exact ⟨0, -1048576, rfl, rfl, Nat.zero_le _, by omega, by omega, HR.out.symm, Since.refl _⟩
  case round =>
    obtain ⟨k, b, rfl, rfl, hk, hb1, hb2, HE, HW⟩ := hrel
    by_cases hkn : k < n
    · have hkl : k < l.length := by have := HN.out; omega
      obtain ⟨g, o, rfl, e0, e1⟩ := elR (H.out.since stR HW.out) hkl
      have hst := HE.out
      rw [drop_at hkl] at hst
      have hbz := HB.out l[k] (List.getElem_mem hkl)
      generalize l[k] = x at *
      obtain ⟨lo, hi⟩ := x
      simp only [fits] at hst hbz e0 e1
      have ka := Lib.hid (since_alloc wr (.cells #[.int .i64 lo, .int .i64 hi] 46))
      have ST := Lib.hid hst
      obtain ⟨r0, r1⟩ := (Bx.fresh wr #[.int .i64 lo, .int .i64 hi] 46).two
      clear hst hkl HE
      by_cases c1 : lo < b
      · have HE := Lib.hid ((okF_no1 c1).symm.trans ST.out)
        go_wp2
        go_ret
        exact .of HE.out (HW.out.trans ka.out)
      · by_cases c2 : lo > hi
        · have HE := Lib.hid ((okF_no2 c2).symm.trans ST.out)
          go_wp2
          go_ret
          exact .of HE.out (HW.out.trans ka.out)
        · by_cases c3 : hi > 1048576
          · have HE := Lib.hid ((okF_no3 c3).symm.trans ST.out)
            go_wp2
            go_ret
            exact .of HE.out (HW.out.trans ka.out)
          · have HE := Lib.hid ((okF_yes c1 c2 c3).symm.trans ST.out)
            go_wp2
            go_roundw
            case rel => exact ⟨k + 1, hi + 2, by go_num, by go_num, by omega, by omega, by omega, HE.out, HW.out.trans ka.out⟩
            case measure => simp [intOf]; omega
    · obtain rfl : k = n := by omega
      have HE2 := Lib.hid (show true = R by rw [← HE.out, List.drop_of_length_le (by have := HN.out; omega)]; rfl)
      go_wp2
      go_ret
      exact .of HE2.out HW.out
theorem within_any (x : Int) (w : World) : Calls Try.prog 136 #[.int .i64 x] w fun e w' => e = .returned (.bool (within x)) ∧ w' = w := by
  by_cases c1 : x ≥ -1048576
  · by_cases c2 : x ≤ 1048576
    · have e : within x = true := by simp only [within, mx, Bool.and_eq_true, decide_eq_true_eq]; omega
      rw [e]
      go_enter Try.func136, Try.ntmps136
      go_wp2
      go_ret
      exact ⟨rfl, rfl⟩
    · have e : within x = false := by simp only [within, mx, Bool.and_eq_false_iff, decide_eq_false_iff_not]; omega
      rw [e]
      go_enter Try.func136, Try.ntmps136
      go_wp2
      go_ret
      exact ⟨rfl, rfl⟩
  · have e : within x = false := by simp only [within, mx, Bool.and_eq_false_iff, decide_eq_false_iff_not]; omega
    rw [e]
    go_enter Try.func136, Try.ntmps136
    go_wp2
    go_ret
    exact ⟨rfl, rfl⟩
end Go.Proofs.Ytilgmkhcpmegjaa.Zs
