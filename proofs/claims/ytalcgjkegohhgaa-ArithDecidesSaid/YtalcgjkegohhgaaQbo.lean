/- Layer 12 (linear): the document's own Lo, Hi, Fixed, Empty, With, Opposite. Layers 11, 12: the document's own  -/
import Derived.Test.YtalcgjkegohhgaaKd
import Derived.Deep.LoopGhost
import Derived.Test.YtalcgjkegohhgaaSf
set_option linter.unusedVariables false
set_option linter.unusedSimpArgs false
section
namespace Go.Proofs.Ytalcgjkegohhgaa.Ln
open Go.RowKit
open Go.Proofs.Ytalcgjkegohhgaa.Dig Go.Proofs.Ytalcgjkegohhgaa.Lx Go.Proofs.Ytalcgjkegohhgaa.Tk Go.Proofs.Ytalcgjkegohhgaa.Ti Go.Proofs.Ytalcgjkegohhgaa.Zs Go.Proofs.Ytalcgjkegohhgaa.Tr Go.Proofs.Ytalcgjkegohhgaa.Sn
theorem rlo_any {A : Option Addr} {m c : Nat} {d : List Rn} {w : World} (h : Sl 2 QR w (.slice A m c) d) (hd : d ≠ []) (W : World) (k : Since w W) :
    Calls Try.prog 109 #[.slice A m c] W (fun e w' => e = .returned (.int .i64 (lo d)) ∧ Since W w' ∧ True) := by
  have hp : 0 < d.length := List.length_pos_iff.2 hd
  obtain ⟨g, o, rfl, e0, -⟩ := elR (h.since stR k) (i := 0) hp
  have hm : 0 < m := by rw [h.at_.1]; exact hp
  have hl : d[0] = d.getD 0 (0, 0) := by simp [List.getD, hp]
  rw [hl] at e0
  simp only [Nat.zero_mul, Nat.add_zero] at e0
  have e1 : W.cell? ⟨g, o, none⟩ = some (.int .i64 (lo d)) := e0
  clear e0 h hd hl hp k
  go_enter Try.func109, Try.ntmps109
  go_wp2
  go_ret
  exact ⟨rfl, Since.refl _, trivial⟩
theorem rhi_any {A : Option Addr} {m c : Nat} {d : List Rn} {w : World} (h : Sl 2 QR w (.slice A m c) d) (hd : d ≠ []) (hl9 : d.length ≤ 1100000) (W : World) (k : Since w W) :
    Calls Try.prog 110 #[.slice A m c] W (fun e w' => e = .returned (.int .i64 (hi d)) ∧ Since W w' ∧ True) := by
  have hp : 0 < d.length := List.length_pos_iff.2 hd
  have hm := h.at_.1
  obtain ⟨n, hn⟩ : ∃ n, m = n + 1 := ⟨m - 1, by omega⟩
  subst hn
  obtain ⟨g, o, rfl, -, e1⟩ := elR (h.since stR k) (i := n) (by omega)
  have hl : d[n]'(by omega) = d.getD (d.length - 1) (0, 0) := by
    have e : d.length - 1 = n := by omega
    rw [e]; simp [List.getD, show n < d.length by omega]
  rw [hl] at e1
  have e2 : W.cell? ⟨g, o + n * 2 + 1, none⟩ = some (.int .i64 (hi d)) := e1
  have hn9 : n ≤ 1100000 := by omega
  have hwm : IntKind.i64.wrap (n : Int) = (n : Int) := by simp [IntKind.wrap, IntKind.bits, IntKind.signed]; omega
  have hmm : (n : Int) < (n : Int) + 1 := by omega
  clear e1 h hd hl hp k hl9 hm
  go_enter Try.func110, Try.ntmps110
  go_wp2
  go_ret
  exact ⟨rfl, Since.refl _, trivial⟩
theorem rfixed_any {A : Option Addr} {m c : Nat} {d : List Rn} {w : World} (h : Sl 2 QR w (.slice A m c) d) (hd : d ≠ []) (hl9 : d.length ≤ 1100000) (W : World) (k : Since w W) :
    Calls Try.prog 57 #[.slice A m c] W (fun e w' => e = .returned (.bool (lo d == hi d)) ∧ Since W w' ∧ True) := by
  have LO := Lib.hid (fun W k => rlo_any h hd W k)
  have HI := Lib.hid (fun W k => rhi_any h hd hl9 W k)
  have K := Lib.hid k
  clear h hd hl9 k
  generalize lo d = a at *
  generalize hi d = b at *
  go_enter Try.func57, Try.ntmps57
  go_wp2_with (first | (go_at_call 109; (with_reducible refine (LO.out _ K.out).mono ?_); rintro e w1 ⟨rfl, k1, -⟩; have K1 := Lib.hid k1; clear k1) | (go_at_call 110; (with_reducible refine (HI.out _ (K.out.trans K1.out)).mono ?_); rintro e w2 ⟨rfl, k2, -⟩; have K2 := Lib.hid k2; clear k2))
  go_ret
  exact ⟨rfl, K1.out.trans K2.out, trivial⟩
theorem kD2 : Kind1 Try.prog 22 33 := knd1 Try.underlying22 (show (Try.prog.info? 33).map (fun i => (i.zero, i.size, i.bytes)) = some (some (.slice none 0 0), 1, 24) by kernel_rfl) (by decide) rfl
/-- the call ends in domains -/
def RetD (E : Ds) (w : World) (e : Ending) (w' : World) : Prop := ∃ A n c, e = .returned (.slice A n c) ∧ E.length = n ∧ Sl 1 QD w' (.slice A n c) E ∧ Since w w'
section
open Go.RowKit
open Go.Proofs.Ytalcgjkegohhgaa.Dig Go.Proofs.Ytalcgjkegohhgaa.Lx Go.Proofs.Ytalcgjkegohhgaa.Tk Go.Proofs.Ytalcgjkegohhgaa.Ti Go.Proofs.Ytalcgjkegohhgaa.Zs Go.Proofs.Ytalcgjkegohhgaa.Tr Go.Proofs.Ytalcgjkegohhgaa.Sn
set_option maxRecDepth 20000 in
set_option maxHeartbeats 2000000 in
theorem rfit_any (v vd : Value) (c : Cn) (ds : List (List Rn)) (w : World) (h : ConAt w v c) (hd : Sl 1 QD w vd ds) (hs : SzM ⟨ds, [c], 0, 0⟩) (hbd : ∀ d ∈ ds, Bd d) :
    Calls Try.prog 48 #[v, vd] w (fun e w' => e = .returned (.bool (modOk ⟨ds, [c], 0, 0⟩)) ∧ Since w w' ∧ True) := by
  have MR := Lib.hid (fun W v (k : Since w W) (h : ModAt W v ⟨ds, [c], 0, 0⟩) => rmright_any v ⟨ds, [c], 0, 0⟩ W h hs hbd)
  obtain ⟨R, hR⟩ : ∃ R, R = modOk ⟨ds, [c], 0, 0⟩ := ⟨_, rfl⟩
  rw [← hR] at MR ⊢
  obtain ⟨vx, vy, rfl, h1, h2⟩ := h
  obtain ⟨ck, cx, ca, cc⟩ := c
  simp only at *
  obtain ⟨X, xc, rfl⟩ := h1.form
  obtain ⟨Y, yc, rfl⟩ := h2.form
  obtain ⟨D, dc, rfl⟩ := hd.form
  generalize hnx : cx.length = nx at *
  generalize hny : ca.length = ny at *
  generalize hnd : ds.length = nd at *
  have ka := since_alloc w (.cells #[.int .i64 ck, .slice X nx xc, .slice Y ny yc, .int .i64 cc] 58)
  have kb := since_alloc (w.alloc (.cells #[.int .i64 ck, .slice X nx xc, .slice Y ny yc, .int .i64 cc] 58)) (.cells #[.int .i64 ck, .slice X nx xc, .slice Y ny yc, .int .i64 cc] 58)
  have CL := con_lit (w.alloc (.cells #[.int .i64 ck, .slice X nx xc, .slice Y ny yc, .int .i64 cc] 58)) ⟨ck, cx, ca, cc⟩ (.slice X nx xc) (.slice Y ny yc) (h1.since stI ka) (h2.since stI ka)
  rw [show (w.alloc (.cells #[.int .i64 ck, .slice X nx xc, .slice Y ny yc, .int .i64 cc] 58)).heap.size = w.heap.size + 1 by simp] at CL
  simp only at CL
  have M := Lib.hid (MR.out ((w.alloc (.cells #[.int .i64 ck, .slice X nx xc, .slice Y ny yc, .int .i64 cc] 58)).alloc (.cells #[.int .i64 ck, .slice X nx xc, .slice Y ny yc, .int .i64 cc] 58)) (.agg #[.slice D nd dc, .slice (some ⟨w.heap.size + 1, 0, none⟩) 1 1, .int .i64 0, .int .i64 0]) (ka.trans kb) ⟨_, _, rfl, hd.since stD (ka.trans kb), CL⟩)
  have K := Lib.hid (ka.trans kb)
  obtain ⟨b0, b1, b2, b3⟩ := bx4 (Bx.fresh w #[.int .i64 ck, .slice X nx xc, .slice Y ny yc, .int .i64 cc] 58)
  clear MR hR h1 h2 hd hs CL ka kb hnx hny hnd hbd
  go_enter Try.func48, Try.ntmps48
  go_wp2_with (go_at_call 85; (with_reducible refine M.out.mono ?_); rintro e w2 ⟨rfl, k2⟩; have K2 := Lib.hid (K.out.trans k2); clear k2)
  go_ret
  exact ⟨rfl, K2.out, trivial⟩
end
end Go.Proofs.Ytalcgjkegohhgaa.Ln
end
section
namespace Go.Proofs.Ytalcgjkegohhgaa.Ev
open Go.RowKit
open Go.Proofs.Ytalcgjkegohhgaa.Dig Go.Proofs.Ytalcgjkegohhgaa.Lx Go.Proofs.Ytalcgjkegohhgaa.Tk Go.Proofs.Ytalcgjkegohhgaa.Ti Go.Proofs.Ytalcgjkegohhgaa.Zs Go.Proofs.Ytalcgjkegohhgaa.Tr Go.Proofs.Ytalcgjkegohhgaa.Sn Go.Proofs.Ytalcgjkegohhgaa.Ln
theorem nfo_list : (Try.prog.info? 56).map (fun i => (i.zero, i.size, i.bytes)) = some (some (.slice none 0 0), 1, 24) := by kernel_rfl
theorem nLL : Kind1 Try.prog 105 56 := knd1 Try.underlying105 nfo_list (by decide) rfl
def QL (w : World) (l : List Int) (u : List Value) : Prop := ∃ v, u = [v] ∧ Sl 1 QI w v l
theorem stL : St QL := fun w w' x u ⟨v, h1, h2⟩ k => ⟨v, h1, h2.since stI k⟩
theorem elL {w : World} {A : Option Addr} {n c : Nat} {xs : List (List Int)} (h : Sl 1 QL w (.slice A n c) xs) {i : Nat} (hi : i < xs.length) :
    ∃ b o B d, A = some ⟨b, o, none⟩ ∧ Sl 1 QI w (.slice B xs[i].length d) xs[i] ∧ w.cell? ⟨b, o + i, none⟩ = some (.slice B xs[i].length d) := by
  obtain ⟨b, o, y, h1, ⟨v, h2, h3⟩, h4⟩ := el1 h hi
  injection h2 with h2
  subst h2
  obtain ⟨B, d, rfl⟩ := h3.form
  exact ⟨b, o, B, d, h1, h3, h4⟩
/-- a list that does not lie in the row R -/
def QEl (R : Value) (w : World) (d : List Int) (u : List Value) : Prop := ∃ v, u = [v] ∧ Sl 1 QI w v d ∧ ∀ b, v.ownBlock = some b → b < w.heap.size ∧ R.ownBlock ≠ some b
theorem QEl.since {R : Value} {w w' : World} {d : List Int} {u : List Value} (h : QEl R w d u) (k : Since w w') : QEl R w' d u := by
  obtain ⟨v, h1, h2, h3⟩ := h
  exact ⟨v, h1, h2.since stI k, fun b hb => ⟨Nat.lt_of_lt_of_le (h3 b hb).1 k.size, (h3 b hb).2⟩⟩
theorem QEl.app {R R' : Value} {w w' : World} {d : List Int} {u : List Value} (h : QEl R w d u) (k : Wide R R' w w') : QEl R' w' d u := by
  obtain ⟨v, h1, h2, h3⟩ := h
  refine ⟨v, h1, Sl.kept (G := fun b => R.ownBlock = some b) (Q := QI) (Q' := QI) k.1 (fun b hb => hb) (fun _ _ h => h) h2 ?_, fun b hb => ⟨Nat.lt_of_lt_of_le (h3 b hb).1 k.1.size, fun e => ?_⟩⟩
  · rintro b o n c rfl hn e
    exact (h3 b rfl).2 e
  · rcases k.2 with e2 | e2
    · exact (h3 b hb).2 (e2 ▸ e)
    · rw [e] at e2
      injection e2 with e2
      have := (h3 b hb).1
      omega
/-- lists in a row of the call's own, that lie elsewhere -/
def RqL (w0 w : World) (v : Value) (xs : List (List Int)) : Prop := Rq 56 (QEl v w) w0 w v xs
theorem RqL.nil {w0 w : World} (h : Since w0 w) : RqL w0 w (.slice none 0 0) [] := Rq.nil _ _ h
theorem RqL.s {w0 w : World} {v : Value} {xs : List (List Int)} (h : RqL w0 w v xs) : Since w0 w := Rq.s h
theorem RqL.sl {w0 w : World} {v : Value} {xs : List (List Int)} (h : RqL w0 w v xs) : Sl 1 QL w v xs := by
  obtain ⟨A, c, h1, h2, h3⟩ := Rq.sl h
  refine ⟨A, c, h1, h2, fun hl => ?_⟩
  obtain ⟨b, o, h4, h5⟩ := h3 hl
  refine ⟨b, o, h4, fun i x hx => ?_⟩
  obtain ⟨u, ⟨v', e1, e2, e3⟩, h7, h8⟩ := h5 i x hx
  exact ⟨u, ⟨v', e1, e2⟩, h7, h8⟩
theorem RqL.since {w0 w w' : World} {v : Value} {xs : List (List Int)} (h : RqL w0 w v xs) (k : Since w w') : RqL w0 w' v xs := by
  obtain ⟨cs, h1, h2, h3⟩ := h
  exact ⟨cs, owns_since h1 k, h2.mono fun x u hu => QEl.since hu k, h3.trans k⟩
theorem RqL.app {w0 w : World} {v : Value} {xs : List (List Int)} (H : RqL w0 w v xs) (hl : xs.length ≤ 1000000) (x : List Int) (y : Value) (hQ : QEl v w x [y]) (h1 : y.oneCell' = true) (g d : Nat) (hb : w.cell? ⟨g, 0, none⟩ = some y)
    {ops : Array Oper} {rest : List Oper} {o : Oper} {a : Act} {R : Exit → Act → World → Prop} (hw : Region.wanted o (yielded ops a.tmps) = true) (s z : Operand)
    (ho : o.op = .call { callee := .builtin .append, args := #[s, z], argTypes := #[105, 105] }) (hs : a.eval s = v) (hx : a.eval z = .slice (some ⟨g, 0, none⟩) 1 d)
    (h : ∀ A c w', RqL w0 w' (.slice A (xs.length + 1) c) (xs ++ [x]) → QEl (.slice A (xs.length + 1) c) w' x [y] → wpList Try.prog ops R rest (a.put o.dst (.slice A (xs.length + 1) c)) w') : wpList Try.prog ops R (o :: rest) a w :=
  wpList_appW nLL H hl x y hQ h1 g d hb hw s z ho hs hx fun A c w' h3 q3 => h A c w' (by
    obtain ⟨cs, q1, q2, q4⟩ := h3
    exact ⟨cs, q1, q2.mono fun x u hu => QEl.app hu q3, q4⟩) (QEl.app hQ q3)
theorem QEl.read {R v : Value} {w : World} {l : List Int} (h : QEl R w l [v]) : Sl 1 QI w v l := by
  obtain ⟨v', h1, h2, h3⟩ := h
  injection h1 with h1
  subst h1; exact h2
theorem rq_lt {w0 w : World} {v : Value} {xs : List (List Int)} (h : RqL w0 w v xs) : ∀ b, v.ownBlock = some b → b < w.heap.size := fun b hb => (Rq.lt h b hb).2
theorem run_mem {f : List Int → Option (List Int)} {a : List Int} {T : List (List Int)} (h : Run f a T) : a ∈ T ∧ 0 < T.length := by
  cases h with
  | last _ => simp
  | more _ _ => simp
theorem run_step {f : List Int → Option (List Int)} {a b : List Int} {T : List (List Int)} (h : Run f a T) (hb : f a = some b) : ∃ T', T = a :: T' ∧ Run f b T' := by
  cases h with
  | last h => rw [h] at hb; cases hb
  | more h r => rw [h] at hb; cases hb; exact ⟨_, rfl, r⟩
theorem owns_from {w : World} {m n : Nat} {e : TypeId} {size : Nat} {v : Value} {k : Nat} {xs : List Value} (h : w.ownsRow n e size v k xs) (hm : m ≤ n) : w.ownsRow m e size v k xs := by
  obtain ⟨h1, h2⟩ := h
  refine ⟨h1, ?_⟩
  rcases h2 with h2 | ⟨g, cap, cur, a, b, c⟩
  · exact .inl h2
  · exact .inr ⟨g, cap, cur, a, Nat.le_trans hm b, c⟩
theorem rq_from {w0 w W : World} {v : Value} {xs : List Int} (k : Since w0 w) (h : Rq 2 QI0 w W v xs) : Rq 2 QI0 w0 W v xs := by
  obtain ⟨cs, h1, h2, h3⟩ := h
  exact ⟨cs, owns_from h1 k.size, h2, k.trans h3⟩
theorem run_last {f : List Int → Option (List Int)} {a : List Int} {T : List (List Int)} (h : Run f a T) (hb : f a = none) : T = [a] := by
  cases h with
  | last h => rfl
  | more h r => rw [h] at hb; cases hb
def okI (b : Bool) (n : Nat) : Nat := if b then n else 0
end Go.Proofs.Ytalcgjkegohhgaa.Ev
end
