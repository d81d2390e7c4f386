/- Layer 10 (trail), pure: a store as the document has it: its domains, what they were at each level, which chang -/
import Derived.Deep.DeepCutAuto
import Derived.Deep.RegionHeld3
import Derived.Test.YtilgmkhcpmegjaaEc
namespace Go.Proofs.Ytilgmkhcpmegjaa.Tr
set_option linter.unusedVariables false
set_option linter.unusedSimpArgs false
open Go.Proofs.Ytilgmkhcpmegjaa.Zs
abbrev Ds := List (List Rn)
structure Sto where
  D : Ds
  W : List Ds
  F : List Bool
section
open Go.RowKit
set_option linter.unusedVariables false
set_option linter.unusedSimpArgs false
open Go.Proofs.Ytilgmkhcpmegjaa.Dig Go.Proofs.Ytilgmkhcpmegjaa.Lx Go.Proofs.Ytilgmkhcpmegjaa.Tk Go.Proofs.Ytilgmkhcpmegjaa.Ti Go.Proofs.Ytilgmkhcpmegjaa.Zs
/-- a domain, a list of domains, a truth value, a number: each in one cell -/
def QD (w : World) (d : List Rn) (u : List Value) : Prop := ∃ v, u = [v] ∧ Sl 2 QR w v d
def QW (w : World) (ds : Ds) (u : List Value) : Prop := ∃ v, u = [v] ∧ Sl 1 QD w v ds
def QB (w : World) (b : Bool) (u : List Value) : Prop := u = [.bool b]
def QI (w : World) (n : Int) (u : List Value) : Prop := u = [.int .i64 n]
theorem stD : St QD := fun w w' x u ⟨v, h1, h2⟩ k => ⟨v, h1, h2.since stR k⟩
theorem stW : St QW := fun w w' x u ⟨v, h1, h2⟩ k => ⟨v, h1, h2.since stD k⟩
theorem stB : St QB := fun w w' x u h k => h
theorem stI : St QI := fun w w' x u h k => h
theorem el1 {α : Type} {Q : World → α → List Value → Prop} {w : World} {A : Option Addr} {n c : Nat} {xs : List α} (h : Sl 1 Q w (.slice A n c) xs) {i : Nat} (hi : i < xs.length) :
    ∃ b o y, A = some ⟨b, o, none⟩ ∧ Q w xs[i] [y] ∧ w.cell? ⟨b, o + i, none⟩ = some y := by
  obtain ⟨b, o, u, h1, h2, h3, h4⟩ := h.el hi
  match u, h3 with
  | [y], _ => exact ⟨b, o, y, h1, h2, by have := h4 0 y rfl; simpa using this⟩
theorem elD {w : World} {A : Option Addr} {n c : Nat} {xs : Ds} (h : Sl 1 QD w (.slice A n c) xs) {i : Nat} (hi : i < xs.length) :
    ∃ b o B d, A = some ⟨b, o, none⟩ ∧ Sl 2 QR w (.slice B xs[i].length d) xs[i] ∧ w.cell? ⟨b, o + i, none⟩ = some (.slice B xs[i].length d) := by
  obtain ⟨b, o, y, h1, ⟨v, h2, h3⟩, h4⟩ := el1 h hi
  injection h2 with h2
  subst h2
  obtain ⟨B, d, rfl⟩ := h3.form
  exact ⟨b, o, B, d, h1, h3, h4⟩
theorem elI {w : World} {A : Option Addr} {n c : Nat} {xs : List Int} (h : Sl 1 QI w (.slice A n c) xs) {i : Nat} (hi : i < xs.length) : ∃ b o, A = some ⟨b, o, none⟩ ∧ w.cell? ⟨b, o + i, none⟩ = some (.int .i64 xs[i]) := by
  obtain ⟨b, o, y, h1, h2, h3⟩ := el1 h hi
  injection h2 with h2
  subst h2
  exact ⟨b, o, h1, h3⟩
/-- a row of the call's own, begun at w1; Q says what lies in it -/
def Rq {α : Type} (e : TypeId) (Q : α → List Value → Prop) (w1 w : World) (v : Value) (xs : List α) : Prop := ∃ cs, w.ownsRow w1.heap.size e 1 v xs.length cs ∧ Rws 1 Q xs cs ∧ Since w1 w
theorem Rq.nil {α : Type} (e : TypeId) (Q : α → List Value → Prop) {w1 w : World} (h : Since w1 w) : Rq e Q w1 w (.slice none 0 0) [] := ⟨[], World.ownsRow_nil _ _ _ _, .nil, h⟩
theorem Rq.since {α : Type} {e : TypeId} {Q : α → List Value → Prop} {w1 w w' : World} {v : Value} {xs : List α} (h : Rq e Q w1 w v xs) (k : Since w w') : Rq e Q w1 w' v xs := by
  obtain ⟨cs, h1, h2, h3⟩ := h
  exact ⟨cs, owns_since h1 k, h2, h3.trans k⟩
theorem Rq.s {α : Type} {e : TypeId} {Q : α → List Value → Prop} {w1 w : World} {v : Value} {xs : List α} (h : Rq e Q w1 w v xs) : Since w1 w := by
  obtain ⟨cs, h1, h2, h3⟩ := h; exact h3
theorem Rq.sl {α : Type} {e : TypeId} {Q : α → List Value → Prop} {w1 w : World} {v : Value} {xs : List α} (h : Rq e Q w1 w v xs) : Sl 1 (fun _ => Q) w v xs := by
  obtain ⟨cs, h1, h2, h3⟩ := h
  exact Sl.own h1 h2 rfl
/-- behind a store into a block ahead of it -/
theorem Rq.put {α : Type} {e : TypeId} {Q : α → List Value → Prop} {w1 w : World} {v : Value} {xs : List α} (h : Rq e Q w1 w v xs) {a : Addr} (ha : a.block < w1.heap.size) (u : Value) : Sl 1 (fun _ => Q) (w.setCell a u) v xs := by
  obtain ⟨cs, h1, h2, h3⟩ := h
  exact Sl.own (ownsRow_setCell_below h1 ha u) h2 rfl
theorem Rq.lt {α : Type} {e : TypeId} {Q : α → List Value → Prop} {w1 w : World} {v : Value} {xs : List α} (h : Rq e Q w1 w v xs) : ∀ g, v.ownBlock = some g → w1.heap.size ≤ g ∧ g < w.heap.size := by
  obtain ⟨cs, h1, h2, h3⟩ := h; exact h1.lt
/-- blocks ahead of the row, or behind it, are as they were -/
theorem Rq.bx {α : Type} {e : TypeId} {Q : α → List Value → Prop} {w1 w w' : World} {v : Value} {xs : List α} (h : Rq e Q w1 w v xs) {b : Nat} {cs : Array Value} {t : TypeId} (hb : Bx w b cs t) (hlt : b < w1.heap.size) (k : Keep v w w') : Bx w' b cs t :=
  k b cs t hb fun e => by have := (h.lt _ e).1; omega
/-- a kind of slice whose elements are of one cell -/
structure Kind1 (P : Program) (t e : TypeId) : Prop where
  ht : P.underlying t = some (.slice e)
  inf : ∃ i z bytes, P.info? e = some i ∧ i.zero = some z ∧ i.size = 1 ∧ i.bytes = bytes ∧ bytes ≤ 24 ∧ z.cells.size = 1
theorem wp_appQ {P : Program} {α : Type} {Q : α → List Value → Prop} {w1 w : World} {t e : TypeId} (K1 : Kind1 P t e) {v : Value} {xs : List α} (H : Rq e Q w1 w v xs) (hl : xs.length ≤ 1000000) (x : α) (y : Value) (hQ : Q x [y]) (h1 : y.oneCell' = true) (g d : Nat) (hb : w.cell? ⟨g, 0, none⟩ = some y)
    {o : Oper} {a : Act} {K : Act → World → Prop} {R : Exit → Act → World → Prop} (s z : Operand)
    (ho : o.op = .call { callee := .builtin .append, args := #[s, z], argTypes := #[t, t] }) (hs : a.eval s = v) (hx : a.eval z = .slice (some ⟨g, 0, none⟩) 1 d)
    (h : ∀ A c w', Rq e Q w1 w' (.slice A (xs.length + 1) c) (xs ++ [x]) → Keep v w w' → K (a.put o.dst (.slice A (xs.length + 1) c)) w') : o.wp P a w K R := by
  obtain ⟨i, zv, bytes, hi, hz0, hz1, hz2, hz3, hz4⟩ := K1.inf
  obtain ⟨cs, hown, hrows, hsi⟩ := H
  have hsz := hsi.size
  have hmul : (xs.length + 1) * bytes ≤ (xs.length + 1) * 24 := Nat.mul_le_mul_left _ hz3
  refine wp_append_at w s z t ho w1.heap.size e i zv 1 bytes K1.ht hi hz0 hz1 hz2 hz4 (by decide) v xs.length cs hs hown ⟨g, 0, none⟩ 1 d [y] hx rfl ?_ ?_ ?_ ?_ hsz fun v' w' h2 h3 h4 => ?_
  · intro j u hj
    rw [add_at, Nat.zero_add]
    match j, hj with
    | 0, hj => cases hj; exact hb
    | j + 1, hj => simp at hj
  · intro u hu; simp at hu; subst hu; exact h1
  · unfold maxLen; omega
  · omega
  · obtain ⟨A, c', rfl⟩ := owns_slice h2
    refine h A c' w' ⟨cs ++ [y], ?_, hrows.snoc hQ rfl, ?_⟩ (.of h3)
    · rw [List.length_append]; exact h2
    · exact Below.grown hsi h3 hsz (fun g hg => (hown.lt g hg).1)
theorem wpList_appQ {P : Program} {α : Type} {Q : α → List Value → Prop} {w1 w : World} {t e : TypeId} (K1 : Kind1 P t e) {v : Value} {xs : List α} (H : Rq e Q w1 w v xs) (hl : xs.length ≤ 1000000) (x : α) (y : Value) (hQ : Q x [y]) (h1 : y.oneCell' = true) (g d : Nat) (hb : w.cell? ⟨g, 0, none⟩ = some y)
    {ops : Array Oper} {rest : List Oper} {o : Oper} {a : Act} {R : Exit → Act → World → Prop} (hw : Region.wanted o (yielded ops a.tmps) = true) (s z : Operand)
    (ho : o.op = .call { callee := .builtin .append, args := #[s, z], argTypes := #[t, t] }) (hs : a.eval s = v) (hx : a.eval z = .slice (some ⟨g, 0, none⟩) 1 d)
    (h : ∀ A c w', Rq e Q w1 w' (.slice A (xs.length + 1) c) (xs ++ [x]) → Keep v w w' → wpList P ops R rest (a.put o.dst (.slice A (xs.length + 1) c)) w') : wpList P ops R (o :: rest) a w :=
  BigFrame.wpList_want hw fun K hK => wp_appQ K1 H hl x y hQ h1 g d hb s z ho hs hx fun A c w' h1 h2 => hK _ _ (h A c w' h1 h2)
theorem bxset {W : World} {b : Nat} {cs : Array Value} {t : TypeId} (h : Bx W b cs t) (i : Nat) (u : Value) {ds : Array Value} (hd : cs.setIfInBounds i u = ds) : Bx (W.setCell ⟨b, i, none⟩ u) b ds t := by
  have := heap_setCell_same W b i _ t u h
  rw [hd] at this
  exact this
/-- the document's store, in memory -/
def StoreAt (w : World) (v : Value) (s : Sto) : Prop := ∃ vD vW vF, v = .agg #[vD, vW, vF] ∧ Sl 1 QD w vD s.D ∧ Sl 1 QW w vW s.W ∧ Sl 1 QB w vF s.F
theorem StoreAt.since {w w' : World} {v : Value} {s : Sto} (h : StoreAt w v s) (k : Since w w') : StoreAt w' v s := by
  obtain ⟨a, b, c, h1, h2, h3, h4⟩ := h
  exact ⟨a, b, c, h1, h2.since stD k, h3.since stW k, h4.since stB k⟩
end
section
open Go.RowKit
set_option linter.unusedVariables false
set_option linter.unusedSimpArgs false
open Go.Proofs.Ytilgmkhcpmegjaa.Dig Go.Proofs.Ytilgmkhcpmegjaa.Lx Go.Proofs.Ytilgmkhcpmegjaa.Tk Go.Proofs.Ytilgmkhcpmegjaa.Ti Go.Proofs.Ytilgmkhcpmegjaa.Zs
/-- two slices that lie in no block together -/
def Apart (v u : Value) : Prop := ∀ b, v.ownBlock = some b → u.ownBlock ≠ some b
theorem Apart.symm {v u : Value} (h : Apart v u) : Apart u v := fun b h1 h2 => h b h2 h1
theorem Apart.nil (u : Value) : Apart (.slice none 0 0) u := fun b h => by simp [Value.ownBlock] at h
/-- how an append leaves its row: where the new row lies, and what else has turned -/
def Wide (v v' : Value) (w w' : World) : Prop := w.grownBy w' v.ownBlock ∧ (v'.ownBlock = v.ownBlock ∨ v'.ownBlock = some w.heap.size)
theorem Wide.apart {α : Type} {e : TypeId} {Q : α → List Value → Prop} {w1 w w' : World} {v v' u : Value} {ys : List α} (k : Wide v v' w w') (h : Apart v u) (hu : Rq e Q w1 w u ys) : Apart v' u := by
  intro b hb hub
  rcases k.2 with e | e
  · exact h b (e ▸ hb) hub
  · rw [hb] at e
    injection e with e
    have := (hu.lt b hub).2
    omega
theorem Wide.rq {α : Type} {e : TypeId} {Q : α → List Value → Prop} {w1 w w' : World} {v v' u : Value} {ys : List α} (k : Wide v v' w w') (h : Apart v u) (hu : Rq e Q w1 w u ys) (hs : Since w1 w') : Rq e Q w1 w' u ys := by
  obtain ⟨cs, h1, h2, h3⟩ := hu
  refine ⟨cs, h1.kept k.1 ?_, h2, hs⟩
  cases hb : u.ownBlock with
  | none => exact .inl rfl
  | some b => exact .inr fun e => h b e.symm hb
theorem wpList_appW {P : Program} {α : Type} {Q : α → List Value → Prop} {w1 w : World} {t e : TypeId} (K1 : Kind1 P t e) {v : Value} {xs : List α} (H : Rq e Q w1 w v xs) (hl : xs.length ≤ 1000000) (x : α) (y : Value) (hQ : Q x [y]) (h1 : y.oneCell' = true) (g d : Nat) (hb : w.cell? ⟨g, 0, none⟩ = some y)
    {ops : Array Oper} {rest : List Oper} {o : Oper} {a : Act} {R : Exit → Act → World → Prop} (hw : Region.wanted o (yielded ops a.tmps) = true) (s z : Operand)
    (ho : o.op = .call { callee := .builtin .append, args := #[s, z], argTypes := #[t, t] }) (hs : a.eval s = v) (hx : a.eval z = .slice (some ⟨g, 0, none⟩) 1 d)
    (h : ∀ A c w', Rq e Q w1 w' (.slice A (xs.length + 1) c) (xs ++ [x]) → Wide v (.slice A (xs.length + 1) c) w w' → wpList P ops R rest (a.put o.dst (.slice A (xs.length + 1) c)) w') : wpList P ops R (o :: rest) a w := by
  refine BigFrame.wpList_want hw fun K hK => ?_
  obtain ⟨i, zv, bytes, hi, hz0, hz1, hz2, hz3, hz4⟩ := K1.inf
  obtain ⟨cs, hown, hrows, hsi⟩ := H
  have hsz := hsi.size
  have hmul : (xs.length + 1) * bytes ≤ (xs.length + 1) * 24 := Nat.mul_le_mul_left _ hz3
  refine wp_append_at w s z t ho w1.heap.size e i zv 1 bytes K1.ht hi hz0 hz1 hz2 hz4 (by decide) v xs.length cs hs hown ⟨g, 0, none⟩ 1 d [y] hx rfl ?_ ?_ ?_ ?_ hsz fun v' w' h2 h3 h4 => ?_
  · intro j u hj
    rw [add_at, Nat.zero_add]
    match j, hj with
    | 0, hj => cases hj; exact hb
    | j + 1, hj => simp at hj
  · intro u hu; simp at hu; subst hu; exact h1
  · unfold maxLen; omega
  · omega
  · obtain ⟨A, c', rfl⟩ := owns_slice h2
    refine hK _ _ (h A c' w' ⟨cs ++ [y], ?_, hrows.snoc hQ rfl, ?_⟩ ⟨h3, h4⟩)
    · rw [List.length_append]; exact h2
    · exact Below.grown hsi h3 hsz (fun g hg => (hown.lt g hg).1)
end
section
open Go.RowKit
set_option linter.unusedVariables false
set_option linter.unusedSimpArgs false
open Go.Proofs.Ytilgmkhcpmegjaa.Dig Go.Proofs.Ytilgmkhcpmegjaa.Lx Go.Proofs.Ytilgmkhcpmegjaa.Tk Go.Proofs.Ytilgmkhcpmegjaa.Ti Go.Proofs.Ytilgmkhcpmegjaa.Zs
/-- the world, but for what lies in G -/
def veil (G : Nat → Bool) (w : World) : World := { w with heap := w.heap.mapIdx fun i o => if G i then Obj.cells #[] 0 else o }
theorem veil_at (G : Nat → Bool) (w : World) (k : Nat) : (veil G w).heap[k]? = (w.heap[k]?).map fun o => if G k then Obj.cells #[] 0 else o := by simp [veil]
theorem veil_size (G : Nat → Bool) (w : World) : (veil G w).heap.size = w.heap.size := by simp [veil]
theorem veil_off {G : Nat → Bool} {k : Nat} (w : World) (h : G k = false) : (veil G w).heap[k]? = w.heap[k]? := by
  rw [veil_at]; simp [h]
theorem veil_cell {G : Nat → Bool} {w : World} {a : Addr} {v : Value} (h : (veil G w).cell? a = some v) : w.cell? a = some v ∧ G a.block = false := by
  have hb : G a.block = false := by
    cases hg : G a.block with
    | false => rfl
    | true =>
      exfalso
      unfold World.cell? at h
      rw [veil_at] at h
      cases hc : w.heap[a.block]? <;> simp [hg, hc] at h
  exact ⟨by rw [World.cell?_of_block (w := w) (veil_off w hb)] at h; exact h, hb⟩
/-- blocks of G alone have turned, and what is new -/
structure Turn (G : Nat → Bool) (w w' : World) : Prop where
  os : w'.os = w.os
  tape : w'.tape = w.tape
  output : w'.output = w.output
  size : w.heap.size ≤ w'.heap.size
  block : ∀ k, k < w.heap.size → G k = false → w'.heap[k]? = w.heap[k]?
theorem Turn.refl (G : Nat → Bool) (w : World) : Turn G w w := ⟨rfl, rfl, rfl, Nat.le_refl _, fun _ _ _ => rfl⟩
theorem Turn.trans {G : Nat → Bool} {a b c : World} (h : Turn G a b) (k : Turn G b c) : Turn G a c :=
  ⟨k.os.trans h.os, k.tape.trans h.tape, k.output.trans h.output, Nat.le_trans h.size k.size, fun i hi hg => (k.block i (Nat.lt_of_lt_of_le hi h.size) hg).trans (h.block i hi hg)⟩
theorem Turn.of {w w' : World} (h : Since w w') (G : Nat → Bool) : Turn G w w' := ⟨h.os, h.tape, h.output, h.size, fun k hk _ => h.block k hk⟩
theorem Turn.since {G : Nat → Bool} {a b c : World} (h : Turn G a b) (k : Since b c) : Turn G a c := h.trans (.of k G)
theorem Turn.grown {G : Nat → Bool} {a w w' : World} (h : Turn G a w) {g : Option Nat} (k : w.grownBy w' g) (hg : ∀ b, g = some b → b < a.heap.size → G b = true) : Turn G a w' :=
  ⟨k.os.trans h.os, k.tape.trans h.tape, k.output.trans h.output, Nat.le_trans h.size k.size, fun i hi h0 => (k.block i (Nat.lt_of_lt_of_le hi h.size) (fun e => by
    have := hg i e.symm hi
    rw [h0] at this; cases this)).trans (h.block i hi h0)⟩
theorem Turn.set {G : Nat → Bool} {a w : World} (h : Turn G a w) {p : Addr} (hp : p.block < a.heap.size → G p.block = true) (u : Value) : Turn G a (w.setCell p u) :=
  ⟨h.os, h.tape, h.output, Nat.le_trans h.size (by simp [World.setCell]), fun i hi h0 => (Below.heap_setCell w p u i (by
    rintro rfl
    have := hp hi
    rw [h0] at this; cases this)).trans (h.block i hi h0)⟩
theorem Turn.veil {G G' : Nat → Bool} {w w' : World} (h : Turn G w w') (hG : ∀ k, k < w.heap.size → G' k = G k) : Since (veil G w) (Tr.veil G' w') := by
  refine ⟨h.os, h.tape, h.output, by rw [veil_size, veil_size]; exact h.size, fun k hk => ?_⟩
  rw [veil_size] at hk
  rw [veil_at, veil_at, hG k hk]
  cases hg : G k with
  | false => rw [h.block k hk hg]
  | true =>
    have h1 : k < w'.heap.size := Nat.lt_of_lt_of_le hk h.size
    rw [Array.getElem?_eq_getElem hk, Array.getElem?_eq_getElem h1]; rfl
theorem Since.veil {w w' : World} (h : Since w w') (G : Nat → Bool) : Since (veil G w) (Tr.veil G w') := (Turn.of h G).veil fun _ _ => rfl
/-- what is seen through the veil is there -/
theorem Sl.unveil {α : Type} {size : Nat} {Q Q' : World → α → List Value → Prop} {G : Nat → Bool} {w : World} (hQ : ∀ x u, Q (veil G w) x u → Q' w x u) {v : Value} {xs : List α} (h : Sl size Q (veil G w) v xs) : Sl size Q' w v xs := by
  obtain ⟨A, c, h1, h2, h3⟩ := h
  refine ⟨A, c, h1, h2, fun hl => ?_⟩
  obtain ⟨b, o, h4, h5⟩ := h3 hl
  refine ⟨b, o, h4, fun i x hx => ?_⟩
  obtain ⟨u, h6, h7, h8⟩ := h5 i x hx
  exact ⟨u, hQ x u h6, h7, fun j y hy => (veil_cell (h8 j y hy)).1⟩
theorem Sl.veil {α : Type} {size : Nat} {Q Q' : World → α → List Value → Prop} {G : Nat → Bool} {w : World} (hQ : ∀ x u, Q w x u → Q' (veil G w) x u) {v : Value} {xs : List α} (h : Sl size Q w v xs) (hf : ∀ b, v.ownBlock = some b → b < w.heap.size → G b = false) : Sl size Q' (veil G w) v xs := by
  obtain ⟨A, c, h1, h2, h3⟩ := h
  refine ⟨A, c, h1, h2, fun hl => ?_⟩
  obtain ⟨b, o, h4, h5⟩ := h3 hl
  refine ⟨b, o, h4, fun i x hx => ?_⟩
  obtain ⟨u, h6, h7, h8⟩ := h5 i x hx
  refine ⟨u, hQ x u h6, h7, fun j y hy => ?_⟩
  have h9 := h8 j y hy
  have hb := hf b (by rw [h1, h4]; rfl) (World.block_lt_of_cell? _ _ h9)
  rw [World.cell?_of_block (w := w) (a := ⟨b, o + i * size + j, none⟩) (veil_off w hb)]
  exact h9
theorem qd_unveil {G : Nat → Bool} {w : World} {d : List Rn} {u : List Value} (h : QD (veil G w) d u) : QD w d u := by
  obtain ⟨v, h1, h2⟩ := h
  exact ⟨v, h1, Sl.unveil (Q := QR) (Q' := QR) (fun _ _ h => h) h2⟩
theorem sl_unveil {G : Nat → Bool} {w : World} {v : Value} {d : List Rn} (h : Sl 2 QR (veil G w) v d) : Sl 2 QR w v d := Sl.unveil (Q := QR) (Q' := QR) (fun _ _ h => h) h
theorem sld_unveil {G : Nat → Bool} {w : World} {v : Value} {ds : Ds} (h : Sl 1 QD (veil G w) v ds) : Sl 1 QD w v ds := Sl.unveil (Q := QD) (Q' := QD) (fun _ _ h => qd_unveil h) h
theorem slw_unveil {G : Nat → Bool} {w : World} {v : Value} {ds : List Ds} (h : Sl 1 QW (veil G w) v ds) : Sl 1 QW w v ds := Sl.unveil (Q := QW) (Q' := QW) (fun _ _ ⟨v, h1, h2⟩ => ⟨v, h1, sld_unveil h2⟩) h
theorem slb_unveil {G : Nat → Bool} {w : World} {v : Value} {bs : List Bool} (h : Sl 1 QB (veil G w) v bs) : Sl 1 QB w v bs := Sl.unveil (Q := QB) (Q' := QB) (fun _ _ h => h) h
theorem StoreAt.unveil {G : Nat → Bool} {w : World} {v : Value} {s : Sto} (h : StoreAt (veil G w) v s) : StoreAt w v s := by
  obtain ⟨a, b, c, h1, h2, h3, h4⟩ := h
  exact ⟨a, b, c, h1, sld_unveil h2, slw_unveil h3, slb_unveil h4⟩
/-- new ranges are seen through the veil -/
theorem sl_veil {G : Nat → Bool} {w : World} {v : Value} {d : List Rn} (h : Sl 2 QR w v d) (hf : ∀ b, v.ownBlock = some b → b < w.heap.size → G b = false) : Sl 2 QR (veil G w) v d := Sl.veil (Q := QR) (Q' := QR) (fun _ _ h => h) h hf
end
end Go.Proofs.Ytilgmkhcpmegjaa.Tr
