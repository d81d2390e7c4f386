/- Layer 10 (trail): lists of domains, of lists of domains, of truth values, in memory; an append of one of them. No code is spoken of. -/
import Derived.Test.YtfcinefmnigacaaFa
import Derived.Test.YtfcinefmnigacaaAp6
import Derived.Test.YtfcinefmnigacaaEc
import Derived.Deep.DeepCutAuto
import Derived.Deep.RegionHeld3
namespace Go.Proofs.Ytfcinefmnigacaa.Tr
open Go.RowKit
set_option linter.unusedVariables false
set_option linter.unusedSimpArgs false
open Go.Proofs.Ytfcinefmnigacaa.Dig Go.Proofs.Ytfcinefmnigacaa.Lx Go.Proofs.Ytfcinefmnigacaa.Tk Go.Proofs.Ytfcinefmnigacaa.Ti Go.Proofs.Ytfcinefmnigacaa.Zs

/-- a domain, a list of domains, a truth value, a number: each in one cell -/
def QD (w : World) (d : List Rn) (u : List Value) : Prop := ∃ v, u = [v] ∧ Sl 2 QR w v d
def QW (w : World) (ds : Ds) (u : List Value) : Prop := ∃ v, u = [v] ∧ Sl 1 QD w v ds
def QB (w : World) (b : Bool) (u : List Value) : Prop := u = [.bool b]
def QI (w : World) (n : Int) (u : List Value) : Prop := u = [.int .i64 n]
theorem stD : St QD := fun w w' x u ⟨v, h1, h2⟩ k => ⟨v, h1, h2.since stR k⟩
theorem stW : St QW := fun w w' x u ⟨v, h1, h2⟩ k => ⟨v, h1, h2.since stD k⟩
theorem stB : St QB := fun w w' x u h k => h
theorem stI : St QI := fun w w' x u h k => h
theorem el1 {α : Type} {Q : World → α → List Value → Prop} {w : World} {A : Option Addr} {n c : Nat} {xs : List α} (h : Sl 1 Q w (.slice A n c) xs) {i : Nat} (hi : i < xs.length) :
    ∃ b o y, A = some ⟨b, o, none⟩ ∧ Q w xs[i] [y] ∧ w.cell? ⟨b, o + i, none⟩ = some y := by
  obtain ⟨b, o, u, h1, h2, h3, h4⟩ := h.el hi
  match u, h3 with
  | [y], _ => exact ⟨b, o, y, h1, h2, by have := h4 0 y rfl; simpa using this⟩
theorem elD {w : World} {A : Option Addr} {n c : Nat} {xs : Ds} (h : Sl 1 QD w (.slice A n c) xs) {i : Nat} (hi : i < xs.length) :
    ∃ b o B d, A = some ⟨b, o, none⟩ ∧ Sl 2 QR w (.slice B xs[i].length d) xs[i] ∧ w.cell? ⟨b, o + i, none⟩ = some (.slice B xs[i].length d) := by
  obtain ⟨b, o, y, h1, ⟨v, h2, h3⟩, h4⟩ := el1 h hi
  injection h2 with h2
  subst h2
  obtain ⟨B, d, rfl⟩ := h3.form
  exact ⟨b, o, B, d, h1, h3, h4⟩
theorem elW {w : World} {A : Option Addr} {n c : Nat} {xs : List Ds} (h : Sl 1 QW w (.slice A n c) xs) {i : Nat} (hi : i < xs.length) :
    ∃ b o B d, A = some ⟨b, o, none⟩ ∧ Sl 1 QD w (.slice B xs[i].length d) xs[i] ∧ w.cell? ⟨b, o + i, none⟩ = some (.slice B xs[i].length d) := by
  obtain ⟨b, o, y, h1, ⟨v, h2, h3⟩, h4⟩ := el1 h hi
  injection h2 with h2
  subst h2
  obtain ⟨B, d, rfl⟩ := h3.form
  exact ⟨b, o, B, d, h1, h3, h4⟩
theorem elB {w : World} {A : Option Addr} {n c : Nat} {xs : List Bool} (h : Sl 1 QB w (.slice A n c) xs) {i : Nat} (hi : i < xs.length) : ∃ b o, A = some ⟨b, o, none⟩ ∧ w.cell? ⟨b, o + i, none⟩ = some (.bool xs[i]) := by
  obtain ⟨b, o, y, h1, h2, h3⟩ := el1 h hi
  injection h2 with h2
  subst h2
  exact ⟨b, o, h1, h3⟩
theorem elI {w : World} {A : Option Addr} {n c : Nat} {xs : List Int} (h : Sl 1 QI w (.slice A n c) xs) {i : Nat} (hi : i < xs.length) : ∃ b o, A = some ⟨b, o, none⟩ ∧ w.cell? ⟨b, o + i, none⟩ = some (.int .i64 xs[i]) := by
  obtain ⟨b, o, y, h1, h2, h3⟩ := el1 h hi
  injection h2 with h2
  subst h2
  exact ⟨b, o, h1, h3⟩
theorem form1 {α : Type} {size : Nat} {Q : World → α → List Value → Prop} {w : World} {v : Value} {xs : List α} (h : Sl size Q w v xs) {n : Nat} (hn : xs.length = n) : ∃ A c, v = .slice A n c := by
  obtain ⟨A, c, rfl⟩ := h.form; subst hn; exact ⟨A, c, rfl⟩
/-- a row of the call's own, begun at w1; Q says what lies in it -/
def Rq {α : Type} (e : TypeId) (Q : α → List Value → Prop) (w1 w : World) (v : Value) (xs : List α) : Prop := ∃ cs, w.ownsRow w1.heap.size e 1 v xs.length cs ∧ Rws 1 Q xs cs ∧ Since w1 w
theorem Rq.nil {α : Type} (e : TypeId) (Q : α → List Value → Prop) {w1 w : World} (h : Since w1 w) : Rq e Q w1 w (.slice none 0 0) [] := ⟨[], World.ownsRow_nil _ _ _ _, .nil, h⟩
theorem Rq.since {α : Type} {e : TypeId} {Q : α → List Value → Prop} {w1 w w' : World} {v : Value} {xs : List α} (h : Rq e Q w1 w v xs) (k : Since w w') : Rq e Q w1 w' v xs := by
  obtain ⟨cs, h1, h2, h3⟩ := h
  exact ⟨cs, owns_since h1 k, h2, h3.trans k⟩
theorem Rq.s {α : Type} {e : TypeId} {Q : α → List Value → Prop} {w1 w : World} {v : Value} {xs : List α} (h : Rq e Q w1 w v xs) : Since w1 w := by
  obtain ⟨cs, h1, h2, h3⟩ := h; exact h3
theorem Rq.sl {α : Type} {e : TypeId} {Q : α → List Value → Prop} {w1 w : World} {v : Value} {xs : List α} (h : Rq e Q w1 w v xs) : Sl 1 (fun _ => Q) w v xs := by
  obtain ⟨cs, h1, h2, h3⟩ := h
  exact Sl.own h1 h2 rfl
/-- behind a store into a block ahead of it -/
theorem Rq.put {α : Type} {e : TypeId} {Q : α → List Value → Prop} {w1 w : World} {v : Value} {xs : List α} (h : Rq e Q w1 w v xs) {a : Addr} (ha : a.block < w1.heap.size) (u : Value) : Sl 1 (fun _ => Q) (w.setCell a u) v xs := by
  obtain ⟨cs, h1, h2, h3⟩ := h
  exact Sl.own (ownsRow_setCell_below h1 ha u) h2 rfl
theorem Rq.lt {α : Type} {e : TypeId} {Q : α → List Value → Prop} {w1 w : World} {v : Value} {xs : List α} (h : Rq e Q w1 w v xs) : ∀ g, v.ownBlock = some g → w1.heap.size ≤ g ∧ g < w.heap.size := by
  obtain ⟨cs, h1, h2, h3⟩ := h; exact h1.lt
/-- blocks ahead of the row, or behind it, are as they were -/
theorem Rq.bx {α : Type} {e : TypeId} {Q : α → List Value → Prop} {w1 w w' : World} {v : Value} {xs : List α} (h : Rq e Q w1 w v xs) {b : Nat} {cs : Array Value} {t : TypeId} (hb : Bx w b cs t) (hlt : b < w1.heap.size) (k : Keep v w w') : Bx w' b cs t :=
  k b cs t hb fun e => by have := (h.lt _ e).1; omega
/-- a kind of slice whose elements are of one cell -/
structure Kind1 (P : Program) (t e : TypeId) : Prop where
  ht : P.underlying t = some (.slice e)
  inf : ∃ i z bytes, P.info? e = some i ∧ i.zero = some z ∧ i.size = 1 ∧ i.bytes = bytes ∧ bytes ≤ 24 ∧ z.cells.size = 1
theorem wp_appQ {P : Program} {α : Type} {Q : α → List Value → Prop} {w1 w : World} {t e : TypeId} (K1 : Kind1 P t e) {v : Value} {xs : List α} (H : Rq e Q w1 w v xs) (hl : xs.length ≤ 1000000) (x : α) (y : Value) (hQ : Q x [y]) (h1 : y.oneCell' = true) (g d : Nat) (hb : w.cell? ⟨g, 0, none⟩ = some y)
    {o : Oper} {a : Act} {K : Act → World → Prop} {R : Exit → Act → World → Prop} (s z : Operand)
    (ho : o.op = .call { callee := .builtin .append, args := #[s, z], argTypes := #[t, t] }) (hs : a.eval s = v) (hx : a.eval z = .slice (some ⟨g, 0, none⟩) 1 d)
    (h : ∀ A c w', Rq e Q w1 w' (.slice A (xs.length + 1) c) (xs ++ [x]) → Keep v w w' → K (a.put o.dst (.slice A (xs.length + 1) c)) w') : o.wp P a w K R := by
  obtain ⟨i, zv, bytes, hi, hz0, hz1, hz2, hz3, hz4⟩ := K1.inf
  obtain ⟨cs, hown, hrows, hsi⟩ := H
  have hsz := hsi.size
  have hmul : (xs.length + 1) * bytes ≤ (xs.length + 1) * 24 := Nat.mul_le_mul_left _ hz3
  refine wp_append_at w s z t ho w1.heap.size e i zv 1 bytes K1.ht hi hz0 hz1 hz2 hz4 (by decide) v xs.length cs hs hown ⟨g, 0, none⟩ 1 d [y] hx rfl ?_ ?_ ?_ ?_ hsz fun v' w' h2 h3 h4 => ?_
  · intro j u hj
    rw [add_at, Nat.zero_add]
    match j, hj with
    | 0, hj => cases hj; exact hb
    | j + 1, hj => simp at hj
  · intro u hu; simp at hu; subst hu; exact h1
  · unfold maxLen; omega
  · omega
  · obtain ⟨A, c', rfl⟩ := owns_slice h2
    refine h A c' w' ⟨cs ++ [y], ?_, hrows.snoc hQ rfl, ?_⟩ (.of h3)
    · rw [List.length_append]; exact h2
    · exact Below.grown hsi h3 hsz (fun g hg => (hown.lt g hg).1)
theorem wpList_appQ {P : Program} {α : Type} {Q : α → List Value → Prop} {w1 w : World} {t e : TypeId} (K1 : Kind1 P t e) {v : Value} {xs : List α} (H : Rq e Q w1 w v xs) (hl : xs.length ≤ 1000000) (x : α) (y : Value) (hQ : Q x [y]) (h1 : y.oneCell' = true) (g d : Nat) (hb : w.cell? ⟨g, 0, none⟩ = some y)
    {ops : Array Oper} {rest : List Oper} {o : Oper} {a : Act} {R : Exit → Act → World → Prop} (hw : Region.wanted o (yielded ops a.tmps) = true) (s z : Operand)
    (ho : o.op = .call { callee := .builtin .append, args := #[s, z], argTypes := #[t, t] }) (hs : a.eval s = v) (hx : a.eval z = .slice (some ⟨g, 0, none⟩) 1 d)
    (h : ∀ A c w', Rq e Q w1 w' (.slice A (xs.length + 1) c) (xs ++ [x]) → Keep v w w' → wpList P ops R rest (a.put o.dst (.slice A (xs.length + 1) c)) w') : wpList P ops R (o :: rest) a w :=
  BigFrame.wpList_want hw fun K hK => wp_appQ K1 H hl x y hQ h1 g d hb s z ho hs hx fun A c w' h1 h2 => hK _ _ (h A c w' h1 h2)
/-- three cells -/
theorem bx3 {W : World} {g : Nat} {z0 z1 z2 : Value} {t : TypeId} (h : Bx W g #[z0, z1, z2] t) : W.cell? ⟨g, 0, none⟩ = some z0 ∧ W.cell? ⟨g, 1, none⟩ = some z1 ∧ W.cell? ⟨g, 2, none⟩ = some z2 := ⟨h.cell 0, h.cell 1, h.cell 2⟩
theorem bx3' {W : World} {g : Nat} {z0 z1 z2 : Value} {t : TypeId} (h : Bx W g #[z0, z1, z2] t) : W.frozen? ⟨g, 0, none⟩ = false ∧ W.frozen? ⟨g, 1, none⟩ = false ∧ W.frozen? ⟨g, 2, none⟩ = false := ⟨h.no 0, h.no 1, h.no 2⟩
theorem bxset {W : World} {b : Nat} {cs : Array Value} {t : TypeId} (h : Bx W b cs t) (i : Nat) (u : Value) {ds : Array Value} (hd : cs.setIfInBounds i u = ds) : Bx (W.setCell ⟨b, i, none⟩ u) b ds t := by
  have := heap_setCell_same W b i _ t u h
  rw [hd] at this
  exact this
abbrev put3 (W : World) (b : Nat) (u0 u1 u2 : Value) : World := ((W.setCell ⟨b, 0, none⟩ u0).setCell ⟨b, 1, none⟩ u1).setCell ⟨b, 2, none⟩ u2
theorem bxput3 {W : World} {b : Nat} {z0 z1 z2 : Value} {t : TypeId} (h : Bx W b #[z0, z1, z2] t) (u0 u1 u2 : Value) : Bx (put3 W b u0 u1 u2) b #[u0, u1, u2] t := bxset (bxset (bxset h 0 u0 rfl) 1 u1 rfl) 2 u2 rfl
theorem since_put3 {w W : World} {b : Nat} (h : Since w W) (hb : w.heap.size ≤ b) (u0 u1 u2 : Value) : Since w (put3 W b u0 u1 u2) := ((h.set hb _).set hb _).set hb _
theorem sl_put3 {α : Type} {w1 w : World} {e : TypeId} {Q : α → List Value → Prop} {v : Value} {xs : List α} (h : Rq e Q w1 w v xs) {a0 : Addr} (u : Value) {b : Nat} (h0 : a0.block < w1.heap.size) (h1 : b < w1.heap.size) (u0 u1 u2 : Value) : Sl 1 (fun _ => Q) (put3 (w.setCell a0 u) b u0 u1 u2) v xs := by
  obtain ⟨cs, k1, k2, k3⟩ := h
  exact Sl.own (ownsRow_setCell_below (ownsRow_setCell_below (ownsRow_setCell_below (ownsRow_setCell_below k1 h0 u) h1 u0) h1 u1) h1 u2) k2 rfl
/-- the document's store, in memory -/
def StoreAt (w : World) (v : Value) (s : Sto) : Prop := ∃ vD vW vF, v = .agg #[vD, vW, vF] ∧ Sl 1 QD w vD s.D ∧ Sl 1 QW w vW s.W ∧ Sl 1 QB w vF s.F
theorem StoreAt.since {w w' : World} {v : Value} {s : Sto} (h : StoreAt w v s) (k : Since w w') : StoreAt w' v s := by
  obtain ⟨a, b, c, h1, h2, h3, h4⟩ := h
  exact ⟨a, b, c, h1, h2.since stD k, h3.since stW k, h4.since stB k⟩
end Go.Proofs.Ytfcinefmnigacaa.Tr
