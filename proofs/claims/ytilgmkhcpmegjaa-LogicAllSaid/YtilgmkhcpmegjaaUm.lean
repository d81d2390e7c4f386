/- Layer 11 (sense): two rows of the call's own that grow side by side: places 0, 1, .. and domains of one value  -/
import Derived.Test.YtilgmkhcpmegjaaUb
namespace Go.Proofs.Ytilgmkhcpmegjaa.Sn
open Go.RowKit
set_option linter.unusedVariables false
set_option linter.unusedSimpArgs false
open Go.Proofs.Ytilgmkhcpmegjaa.Dig Go.Proofs.Ytilgmkhcpmegjaa.Lx Go.Proofs.Ytilgmkhcpmegjaa.Tk Go.Proofs.Ytilgmkhcpmegjaa.Ti Go.Proofs.Ytilgmkhcpmegjaa.Zs Go.Proofs.Ytilgmkhcpmegjaa.Tr
theorem nfo_dom : (Try.prog.info? 43).map (fun i => (i.zero, i.size, i.bytes)) = some (some (.slice none 0 0), 1, 24) := by kernel_rfl
theorem nfo_int : (Try.prog.info? 3).map (fun i => (i.zero, i.size, i.bytes)) = some (some (.int .i64 0), 1, 8) := by kernel_rfl
theorem nfo_i64 : (Try.prog.info? 2).map (fun i => (i.zero, i.size, i.bytes)) = some (some (.int .i64 0), 1, 8) := by kernel_rfl
theorem knd1 {P : Program} {t e : TypeId} {z : Value} {bytes : Nat} (ht : P.underlying t = some (.slice e)) (h : (P.info? e).map (fun i => (i.zero, i.size, i.bytes)) = some (some z, 1, bytes)) (hb : bytes ≤ 24) (hz : z.cells.size = 1) : Kind1 P t e := by
  obtain ⟨i0, hi, hz0, hz1, hz2⟩ := info_parts h
  exact ⟨ht, i0, z, bytes, hi, hz0, hz1, hz2, hb, hz⟩
theorem nD : Kind1 Try.prog 26 43 := knd1 Try.underlying26 nfo_dom (by decide) rfl
theorem nI : Kind1 Try.prog 22 3 := knd1 Try.underlying22 nfo_int (by decide) rfl
theorem nL : Kind1 Try.prog 23 2 := knd1 Try.underlying23 nfo_i64 (by decide) rfl
/-- an integer in one cell, whatever the world -/
def QI0 (n : Int) (u : List Value) : Prop := u = [.int .i64 n]
theorem rqMono {α : Type} {e : TypeId} {Q Q' : α → List Value → Prop} {w1 w : World} {v : Value} {xs : List α} (h : Rq e Q w1 w v xs) (hQ : ∀ x u, Q x u → Q' x u) : Rq e Q' w1 w v xs := by
  obtain ⟨cs, h1, h2, h3⟩ := h
  exact ⟨cs, h1, h2.mono hQ, h3⟩
/-- a domain of one value, in a block of its own that N allows -/
def Qd (w : World) (N : Nat → Prop) (d : List Rn) (u : List Value) : Prop := ∃ b n, u = [.slice (some ⟨b, 0, none⟩) 1 1] ∧ d = [(n, n)] ∧ Bx w b #[.int .i64 n, .int .i64 n] 46 ∧ N b
theorem Qd.qd {w : World} {N : Nat → Prop} {d : List Rn} {u : List Value} (h : Qd w N d u) : QD w d u := by
  obtain ⟨b, n, rfl, rfl, h1, -⟩ := h
  refine ⟨_, rfl, some ⟨b, 0, none⟩, 1, rfl, Nat.le_refl _, fun _ => ⟨b, 0, rfl, fun i x hx => ?_⟩⟩
  match i, hx with
  | 0, hx =>
    cases hx
    refine ⟨_, rfl, rfl, fun j y hy => ?_⟩
    match j, hy with
    | 0, hy => cases hy; exact h1.cell 0
    | 1, hy => cases hy; exact h1.cell 1
    | j + 2, hy => simp at hy
  | i + 1, hx => simp at hx
theorem bx_lt {w : World} {b : Nat} {cs : Array Value} {t : TypeId} (h : Bx w b cs t) : b < w.heap.size := by
  unfold Bx at h
  apply Decidable.byContradiction; intro hn
  rw [Array.getElem?_eq_none (by omega)] at h; cases h
theorem bx_grown {w w' : World} {g : Option Nat} (k : w.grownBy w' g) {b : Nat} {cs : Array Value} {t : TypeId} (h : Bx w b cs t) (hg : g ≠ some b) : Bx w' b cs t := by
  have := bx_lt h
  unfold Bx at *
  rw [k.block b this (fun e => hg e.symm)]; exact h
theorem rqStore {α : Type} {e : TypeId} {Q : α → List Value → Prop} {w1 w : World} {v : Value} {xs : List α} (h : Rq e Q w1 w v xs) {b i : Nat} (hb : w1.heap.size ≤ b) (hv : v.ownBlock ≠ some b) (u : Value) : Rq e Q w1 (w.setCell ⟨b, i, none⟩ u) v xs := by
  obtain ⟨cs, h1, h2, h3⟩ := h
  refine ⟨cs, h1.kept (row := some b) ⟨rfl, rfl, rfl, by simp [World.setCell], fun k _ hk => Below.heap_setCell _ _ _ _ (fun e => hk (by simp [e]))⟩ ?_, h2, h3.set (p := ⟨b, i, none⟩) hb u⟩
  cases hb : v.ownBlock with
  | none => exact .inl rfl
  | some g => exact .inr fun e => hv (by rw [hb]; exact e)
/-- the two rows, begun at w1; they lie in no block of B -/
def Two (w1 w : World) (B : Nat → Prop) (X D : Value) (jx jd : Nat) (v : List Int) : Prop :=
  Rq 3 QI0 w1 w X (iot jx) ∧ Rq 43 (Qd w (fun b => D.ownBlock ≠ some b ∧ X.ownBlock ≠ some b ∧ ¬ B b)) w1 w D (sing (v.take jd)) ∧ Apart X D ∧ ∀ b, B b → b < w.heap.size ∧ X.ownBlock ≠ some b ∧ D.ownBlock ≠ some b
theorem Two.nil {w1 w : World} {B : Nat → Prop} (h : Since w1 w) (hB : ∀ b, B b → b < w.heap.size) (v : List Int) : Two w1 w B (.slice none 0 0) (.slice none 0 0) 0 0 v := ⟨Rq.nil _ _ h, Rq.nil _ _ h, Apart.nil _, fun b hb => ⟨hB b hb, by simp [Value.ownBlock], by simp [Value.ownBlock]⟩⟩
theorem Two.s {w1 w : World} {B : Nat → Prop} {X D : Value} {jx jd : Nat} {v : List Int} (h : Two w1 w B X D jx jd v) : Since w1 w := h.1.s
theorem Two.since {w1 w w' : World} {B : Nat → Prop} {X D : Value} {jx jd : Nat} {v : List Int} (h : Two w1 w B X D jx jd v) (k : Since w w') : Two w1 w' B X D jx jd v := by
  refine ⟨h.1.since k, rqMono (h.2.1.since k) ?_, h.2.2.1, fun b hb => ⟨Nat.lt_of_lt_of_le (h.2.2.2 b hb).1 k.size, (h.2.2.2 b hb).2⟩⟩
  rintro x u ⟨b, n, h1, h2, h3, h4⟩
  exact ⟨b, n, h1, h2, h3.since k, h4⟩
theorem Two.set {w1 w : World} {B : Nat → Prop} {X D : Value} {jx jd : Nat} {v : List Int} (h : Two w1 w B X D jx jd v) {b i : Nat} (hb : w1.heap.size ≤ b) (hB : B b) (u : Value) : Two w1 (w.setCell ⟨b, i, none⟩ u) B X D jx jd v := by
  obtain ⟨h1, h2, h3⟩ := h.2.2.2 b hB
  refine ⟨rqStore h.1 hb h2 u, rqMono (rqStore h.2.1 hb h3 u) ?_, h.2.2.1, fun b hb => ⟨by simpa [World.setCell] using (h.2.2.2 b hb).1, (h.2.2.2 b hb).2⟩⟩
  rintro x q ⟨g, n, h4, h5, h6, h7, h8, h9⟩
  refine ⟨g, n, h4, h5, ?_, h7, h8, h9⟩
  unfold Bx at *
  rw [Below.heap_setCell _ _ _ _ (by simp only; rintro rfl; exact h9 hB)]
  exact h6
theorem Wide.size {v v' : Value} {w w' : World} (k : Wide v v' w w') : w.heap.size ≤ w'.heap.size := k.1.size
theorem sing_take {v : List Int} {j : Nat} (h : j < v.length) : sing (v.take j) ++ [[(v[j], v[j])]] = sing (v.take (j + 1)) := by
  rw [List.take_succ_eq_append_getElem h, sing_snoc]
theorem sing_take_len {v : List Int} {j : Nat} (h : j ≤ v.length) : (sing (v.take j)).length = j := by rw [sing_len, List.length_take]; omega
theorem wpList_twoX {w1 w : World} {B : Nat → Prop} {X D : Value} {jx jd : Nat} {v : List Int} (T : Two w1 w B X D jx jd v) (hl : jx ≤ 1000) (g d : Nat) (hb : w.cell? ⟨g, 0, none⟩ = some (.int .i64 (jx : Int)))
    {ops : Array Oper} {rest : List Oper} {o : Oper} {a : Act} {R : Exit → Act → World → Prop} (hw : Region.wanted o (yielded ops a.tmps) = true) (s z : Operand)
    (ho : o.op = .call { callee := .builtin .append, args := #[s, z], argTypes := #[22, 22] }) (hs : a.eval s = X) (hx : a.eval z = .slice (some ⟨g, 0, none⟩) 1 d)
    (h : ∀ A c w', Two w1 w' B (.slice A (jx + 1) c) D (jx + 1) jd v → Keep X w w' → wpList Try.prog ops R rest (a.put o.dst (.slice A (jx + 1) c)) w') : wpList Try.prog ops R (o :: rest) a w := by
  obtain ⟨tx, td, ap, tb⟩ := T
  refine wpList_appW nI tx (by rw [iot_len]; omega) (jx : Int) (.int .i64 (jx : Int)) rfl rfl g d hb hw s z ho hs hx ?_
  intro A c w' h2 q2
  rw [iot_len] at h2 q2 ⊢
  refine h A c w' ⟨by rw [iot_snoc]; exact h2, ?_, q2.apart ap td, fun b hb => ?_⟩ (.of q2.1)
  rotate_left
  · obtain ⟨h3, h4, h5⟩ := tb b hb
    refine ⟨Nat.lt_of_lt_of_le h3 (Wide.size q2), ?_, h5⟩
    rcases q2.2 with e2 | e2
    · rw [e2]; exact h4
    · rw [e2]; intro e; injection e with e; omega
  refine rqMono (q2.rq ap td h2.s) ?_
  rintro x u ⟨b, n, h3, h4, h5, h6, h7, h8⟩
  refine ⟨b, n, h3, h4, bx_grown q2.1 h5 h7, h6, ?_, h8⟩
  intro e
  rcases q2.2 with e2 | e2
  · exact h7 (e2 ▸ e)
  · rw [e] at e2
    injection e2 with e2
    have := bx_lt h5
    omega
theorem wpList_twoD {w1 w : World} {B : Nat → Prop} {X D : Value} {jx jd : Nat} {v : List Int} (T : Two w1 w B X D jx jd v) (hj : jd < v.length) (hl : v.length ≤ 1000) (g d g2 : Nat) (hb : w.cell? ⟨g, 0, none⟩ = some (.slice (some ⟨g2, 0, none⟩) 1 1)) (h2 : Bx w g2 #[.int .i64 v[jd], .int .i64 v[jd]] 46) (hX : X.ownBlock ≠ some g2) (hD : D.ownBlock ≠ some g2) (hg2 : ¬ B g2)
    {ops : Array Oper} {rest : List Oper} {o : Oper} {a : Act} {R : Exit → Act → World → Prop} (hw : Region.wanted o (yielded ops a.tmps) = true) (s z : Operand)
    (ho : o.op = .call { callee := .builtin .append, args := #[s, z], argTypes := #[26, 26] }) (hs : a.eval s = D) (hx : a.eval z = .slice (some ⟨g, 0, none⟩) 1 d)
    (h : ∀ A c w', Two w1 w' B X (.slice A (jd + 1) c) jx (jd + 1) v → Keep D w w' → wpList Try.prog ops R rest (a.put o.dst (.slice A (jd + 1) c)) w') : wpList Try.prog ops R (o :: rest) a w := by
  obtain ⟨tx, td, ap, tb⟩ := T
  refine wpList_appW nD td (by rw [sing_take_len (by omega)]; omega) [(v[jd], v[jd])] (.slice (some ⟨g2, 0, none⟩) 1 1) ⟨g2, v[jd], rfl, rfl, h2, hD, hX, hg2⟩ rfl g d hb hw s z ho hs hx ?_
  intro A c w' h3 q2
  rw [sing_take_len (by omega)] at h3 q2 ⊢
  refine h A c w' ⟨q2.rq ap.symm tx h3.s, ?_, (q2.apart ap.symm tx).symm, fun b hb => ?_⟩ (.of q2.1)
  rotate_left
  · obtain ⟨h4, h5, h6⟩ := tb b hb
    refine ⟨Nat.lt_of_lt_of_le h4 (Wide.size q2), h5, ?_⟩
    rcases q2.2 with e2 | e2
    · rw [e2]; exact h6
    · rw [e2]; intro e; injection e with e; omega
  rw [sing_take hj] at h3
  refine rqMono h3 ?_
  rintro x u ⟨b, n, h4, h5, h6, h7, h8, h9⟩
  refine ⟨b, n, h4, h5, bx_grown q2.1 h6 h7, ?_, h8, h9⟩
  intro e
  rcases q2.2 with e2 | e2
  · exact h7 (e2 ▸ e)
  · rw [e] at e2
    injection e2 with e2
    have := bx_lt h6
    omega
theorem Two.slX {w1 w : World} {B : Nat → Prop} {X D : Value} {jx jd : Nat} {v : List Int} (h : Two w1 w B X D jx jd v) : Sl 1 QI w X (iot jx) := h.1.sl
theorem Two.slD {w1 w : World} {B : Nat → Prop} {X D : Value} {jx jd : Nat} {v : List Int} (h : Two w1 w B X D jx jd v) : Sl 1 QD w D (sing (v.take jd)) := by
  obtain ⟨cs, h1, h2, h3⟩ := h.2.1
  exact Sl.own h1 (h2.mono fun x u k => k.qd) rfl
section
open Go.RowKit
set_option linter.unusedVariables false
set_option linter.unusedSimpArgs false
open Go.Proofs.Ytilgmkhcpmegjaa.Dig Go.Proofs.Ytilgmkhcpmegjaa.Lx Go.Proofs.Ytilgmkhcpmegjaa.Tk Go.Proofs.Ytilgmkhcpmegjaa.Ti Go.Proofs.Ytilgmkhcpmegjaa.Zs Go.Proofs.Ytilgmkhcpmegjaa.Tr
theorem sl_ints {W : World} {g : Nat} {t : TypeId} {arr : Array Value} {l : List Int} (h : Bx W g arr t) (ha : arr = (l.map (Value.int .i64)).toArray) {n : Nat} (hn : n = l.length) : Sl 1 QI W (.slice (some ⟨g, 0, none⟩) n n) l := by
  subst ha hn
  refine ⟨_, l.length, rfl, Nat.le_refl _, fun _ => ⟨g, 0, rfl, fun i x hx => ⟨[.int .i64 x], rfl, rfl, fun j y hy => ?_⟩⟩⟩
  match j, hy with
  | 0, hy =>
    cases hy
    have := h.cell i
    rw [show (0 + i * 1 + 0) = i by omega, this]
    simp [hx]
  | j + 1, hy => simp at hy
theorem sl_dom1 {W : World} {g : Nat} {a b : Int} (h : Bx W g #[.int .i64 a, .int .i64 b] 46) : Sl 2 QR W (.slice (some ⟨g, 0, none⟩) 1 1) [(a, b)] := by
  refine ⟨some ⟨g, 0, none⟩, 1, rfl, Nat.le_refl _, fun _ => ⟨g, 0, rfl, fun i x hx => ?_⟩⟩
  match i, hx with
  | 0, hx =>
    cases hx
    refine ⟨_, rfl, rfl, fun j y hy => ?_⟩
    match j, hy with
    | 0, hy => cases hy; exact h.cell 0
    | 1, hy => cases hy; exact h.cell 1
    | j + 2, hy => simp at hy
  | i + 1, hx => simp at hx
end
end Go.Proofs.Ytilgmkhcpmegjaa.Sn
