/- Layer 6 (parse): items and expressions as they lie in memory. No code is spoken of. -/
import Derived.Test.YtilgmkhcpmegjaaQac
namespace Go.Proofs.Ytilgmkhcpmegjaa.Ti
open Go.RowKit
set_option linter.unusedVariables false
open Go.Proofs.Ytilgmkhcpmegjaa.Dig Go.Proofs.Ytilgmkhcpmegjaa.Lx Go.Proofs.Ytilgmkhcpmegjaa.Tk Go.Proofs.Ytilgmkhcpmegjaa.Ps
/-- the slice v reads as xs: each lies in so many cells, and Q says which -/
def Sl {α : Type} (size : Nat) (Q : World → α → List Value → Prop) (w : World) (v : Value) (xs : List α) : Prop :=
  ∃ A c, v = .slice A xs.length c ∧ xs.length ≤ c ∧ (0 < xs.length → ∃ b o, A = some ⟨b, o, none⟩ ∧ ∀ i x, xs[i]? = some x → ∃ u, Q w x u ∧ u.length = size ∧ ∀ j y, u[j]? = some y → w.cell? ⟨b, o + i * size + j, none⟩ = some y)
def St {α : Type} (Q : World → α → List Value → Prop) : Prop := ∀ w w' x u, Q w x u → Since w w' → Q w' x u
theorem Sl.since {α : Type} {size : Nat} {Q : World → α → List Value → Prop} (hQ : St Q) {w w' : World} {v : Value} {xs : List α} (h : Sl size Q w v xs) (k : Since w w') : Sl size Q w' v xs := by
  obtain ⟨A, c, h1, h2, h3⟩ := h
  refine ⟨A, c, h1, h2, fun hl => ?_⟩
  obtain ⟨b, o, h4, h5⟩ := h3 hl
  refine ⟨b, o, h4, fun i x hx => ?_⟩
  obtain ⟨u, h6, h7, h8⟩ := h5 i x hx
  refine ⟨u, hQ w w' x u h6 k, h7, fun j y hy => ?_⟩
  have h9 := h8 j y hy
  exact (k.cell _ (World.block_lt_of_cell? _ _ h9)).trans h9
theorem Sl.nil {α : Type} (size : Nat) (Q : World → α → List Value → Prop) (w : World) : Sl size Q w (.slice none 0 0) [] := ⟨none, 0, rfl, Nat.le_refl _, fun h => absurd h (Nat.lt_irrefl 0)⟩
theorem Sl.at_ {α : Type} {size : Nat} {Q : World → α → List Value → Prop} {w : World} {A : Option Addr} {n c : Nat} {xs : List α} (h : Sl size Q w (.slice A n c) xs) : n = xs.length ∧ xs.length ≤ c := by
  obtain ⟨A', c', h1, h2, -⟩ := h
  injection h1 with _ e1 e2
  subst e1 e2
  exact ⟨rfl, h2⟩
theorem Sl.form {α : Type} {size : Nat} {Q : World → α → List Value → Prop} {w : World} {v : Value} {xs : List α} (h : Sl size Q w v xs) : ∃ A c, v = .slice A xs.length c := by
  obtain ⟨A, c, h1, -, -⟩ := h
  exact ⟨A, c, h1⟩
theorem Sl.el {α : Type} {size : Nat} {Q : World → α → List Value → Prop} {w : World} {A : Option Addr} {n c : Nat} {xs : List α} (h : Sl size Q w (.slice A n c) xs) {i : Nat} (hi : i < xs.length) :
    ∃ b o u, A = some ⟨b, o, none⟩ ∧ Q w xs[i] u ∧ u.length = size ∧ ∀ j y, u[j]? = some y → w.cell? ⟨b, o + i * size + j, none⟩ = some y := by
  obtain ⟨A', c', h1, h2, h3⟩ := h
  injection h1 with e0 e1 e2
  subst e0
  obtain ⟨b, o, h4, h5⟩ := h3 (by omega)
  obtain ⟨u, h6, h7, h8⟩ := h5 i xs[i] (by simp [hi])
  exact ⟨b, o, u, h4, h6, h7, h8⟩
/-- the cells of some, one behind the other -/
inductive Rws {α : Type} (size : Nat) (Q : α → List Value → Prop) : List α → List Value → Prop
  | nil : Rws size Q [] []
  | snoc {xs : List α} {cs : List Value} {x : α} {u : List Value} (h : Rws size Q xs cs) (k : Q x u) (l : u.length = size) : Rws size Q (xs ++ [x]) (cs ++ u)
theorem Rws.len {α : Type} {size : Nat} {Q : α → List Value → Prop} {xs : List α} {cs : List Value} (h : Rws size Q xs cs) : cs.length = xs.length * size := by
  induction h with
  | nil => simp
  | snoc h k l ih => rw [List.length_append, List.length_append, ih, l, List.length_singleton, Nat.add_mul, Nat.one_mul]
theorem Rws.get {α : Type} {size : Nat} {Q : α → List Value → Prop} {xs : List α} {cs : List Value} (h : Rws size Q xs cs) : ∀ i x, xs[i]? = some x → ∃ u, Q x u ∧ u.length = size ∧ ∀ j y, u[j]? = some y → cs[i * size + j]? = some y := by
  induction h with
  | nil => intro i x hx; simp at hx
  | @snoc xs cs x0 u0 h k l ih =>
    intro i x hx
    by_cases hi : i < xs.length
    · rw [List.getElem?_append_left hi] at hx
      obtain ⟨u, h1, h2, h3⟩ := ih i x hx
      refine ⟨u, h1, h2, fun j y hy => ?_⟩
      have := h3 j y hy
      rw [List.getElem?_append_left (by
        apply Decidable.byContradiction; intro hn
        rw [List.getElem?_eq_none (by omega)] at this; cases this)]
      exact this
    · rw [List.getElem?_append_right (by omega)] at hx
      have hi2 : i - xs.length = 0 := by
        apply Decidable.byContradiction; intro hn
        rw [List.getElem?_eq_none (by simp; omega)] at hx; cases hx
      rw [hi2] at hx
      simp only [List.getElem?_cons_zero, Option.some.injEq] at hx
      subst hx
      have hi3 : i = xs.length := by omega
      subst hi3
      refine ⟨u0, k, l, fun j y hy => ?_⟩
      rw [List.getElem?_append_right (by rw [h.len]; omega), h.len]
      rw [Nat.add_sub_cancel_left]; exact hy
theorem Rws.mono {α : Type} {size : Nat} {Q Q' : α → List Value → Prop} (hQ : ∀ x u, Q x u → Q' x u) {xs : List α} {cs : List Value} (h : Rws size Q xs cs) : Rws size Q' xs cs := by
  induction h with
  | nil => exact .nil
  | snoc h k l ih => exact .snoc ih (hQ _ _ k) l
theorem Rws.since {α : Type} {size : Nat} {Q : World → α → List Value → Prop} (hQ : St Q) {w w' : World} {xs : List α} {cs : List Value} (h : Rws size (Q w) xs cs) (k : Since w w') : Rws size (Q w') xs cs :=
  h.mono fun x u hu => hQ w w' x u hu k
theorem Rws.append {α : Type} {size : Nat} {Q : α → List Value → Prop} {xs ys : List α} {cs ds : List Value} (h : Rws size Q xs cs) (k : Rws size Q ys ds) : Rws size Q (xs ++ ys) (cs ++ ds) := by
  induction k with
  | nil => simpa using h
  | snoc _ k l ih => rw [← List.append_assoc, ← List.append_assoc]; exact .snoc ih k l
/-- a row that the call owns reads as its elements -/
theorem Sl.own {α : Type} {size : Nat} {Q : World → α → List Value → Prop} {w : World} {base : Nat} {e : TypeId} {v : Value} {n : Nat} {xs : List α} {cs : List Value} (h : w.ownsRow base e size v n cs) (hr : Rws size (Q w) xs cs) (hn : n = xs.length) : Sl size Q w v xs := by
  subst hn
  have hc := fun (g : Nat) => h.cells (g := g)
  rcases h.2 with ⟨h1, h2⟩ | ⟨g, cap, cur, h1, _, _, hcap, _⟩
  · refine ⟨none, 0, by rw [h1, h2], by omega, fun h => by omega⟩
  · refine ⟨some ⟨g, 0, none⟩, cap, h1, hcap, fun _ => ⟨g, 0, rfl, fun i x hx => ?_⟩⟩
    obtain ⟨u, h3, h4, h5⟩ := hr.get i x hx
    refine ⟨u, h3, h4, fun j y hy => ?_⟩
    have := hc g (by rw [h1]; rfl) (i * size + j) y (h5 j y hy)
    simpa [add_block] using this
/-- the newest block -/
theorem cell_new (w : World) (xs : Array Value) (t : TypeId) {b : Nat} (hb : b = w.heap.size) {j : Nat} {u : Value} (hu : xs[j]? = some u) : (w.alloc (.cells xs t)).cell? ((⟨b, 0, none⟩ : Addr).add j) = some u := by
  subst hb
  rw [add_at, Nat.zero_add]
  have h : j < xs.size := by
    apply Decidable.byContradiction; intro hn
    rw [Array.getElem?_eq_none (by omega)] at hu; cases hu
  rw [Array.getElem?_eq_getElem h] at hu
  simp [h] at hu ⊢
  exact hu
/-- cells of a block, one by one -/
def Box (w : World) (b : Nat) (us : List Value) : Prop := ∀ j u, us[j]? = some u → w.cell? ⟨b, j, none⟩ = some u
theorem Box.since {w w' : World} {b : Nat} {us : List Value} (h : Box w b us) (k : Since w w') : Box w' b us := fun j u hu => by
  have := h j u hu
  exact (k.cell _ (World.block_lt_of_cell? _ _ this)).trans this
theorem Box.below {B : Nat} {w w' : World} {b : Nat} {us : List Value} (h : Box w b us) (k : Below B w w') (hb : b < B) : Box w' b us := fun j u hu => (k.cell (p := ⟨b, j, none⟩) hb).trans (h j u hu)
theorem Box.new (w : World) (us : List Value) (t : TypeId) : Box (w.alloc (.cells us.toArray t)) w.heap.size us := fun j u hu => by
  have := cell_new w us.toArray t rfl (j := j) (u := u) (by simpa using hu)
  rw [add_at, Nat.zero_add] at this
  exact this
/-- two new blocks -/
theorem Box.two (w : World) (us vs : List Value) (t t' : TypeId) : Since w ((w.alloc (.cells us.toArray t)).alloc (.cells vs.toArray t')).drew ∧ Box ((w.alloc (.cells us.toArray t)).alloc (.cells vs.toArray t')).drew w.heap.size us ∧ Box ((w.alloc (.cells us.toArray t)).alloc (.cells vs.toArray t')).drew (w.heap.size + 1) vs := by
  refine ⟨(((Since.refl w).alloc _).alloc _).drew, (Box.new w us t).since (((Since.refl _).alloc _).drew), ?_⟩
  have h := (Box.new (w.alloc (.cells us.toArray t)) vs t').since ((Since.refl _).drew)
  rw [show (w.alloc (.cells us.toArray t)).heap.size = w.heap.size + 1 by simp] at h
  exact h
theorem Box.four {w : World} {b : Nat} {u0 u1 u2 u3 : Value} (h : Box w b [u0, u1, u2, u3]) :
    w.cell? ⟨b, 0, none⟩ = some u0 ∧ w.cell? ⟨b, 1, none⟩ = some u1 ∧ w.cell? ⟨b, 2, none⟩ = some u2 ∧ w.cell? ⟨b, 3, none⟩ = some u3 := ⟨h 0 _ rfl, h 1 _ rfl, h 2 _ rfl, h 3 _ rfl⟩
theorem Box.cells {w : World} {b : Nat} {us : List Value} (h : Box w b us) : ∀ j u, us[j]? = some u → w.cell? ((⟨b, 0, none⟩ : Addr).add j) = some u := fun j u hu => by
  rw [add_at, Nat.zero_add]; exact h j u hu
/-- v lies in none of these blocks -/
def FarO (G : Nat → Prop) (v : Value) : Prop := ∀ b o n c, v = .slice (some ⟨b, o, none⟩) n c → 0 < n → ¬ G b
abbrev noG : Nat → Prop := fun _ => False
theorem FarO.none (v : Value) : FarO noG v := fun b o n c _ _ h => h
theorem FarO.mono {G G' : Nat → Prop} {v : Value} (h : FarO G v) (hg : ∀ b, G' b → G b) : FarO G' v := fun b o n c e hn hb => h b o n c e hn (hg b hb)
theorem FarO.or {G G' : Nat → Prop} {v : Value} (h : FarO G v) (k : FarO G' v) : FarO (fun b => G b ∨ G' b) v := fun b o n c e hn hb => hb.elim (h b o n c e hn) (k b o n c e hn)
/-- what lies in a world lies in no block that comes later -/
theorem FarO.new {α : Type} {size : Nat} {Q : World → α → List Value → Prop} {w : World} {v : Value} {xs : List α} (h : Sl size Q w v xs) (hs : 0 < size) {G : Nat → Prop} (hG : ∀ b, G b → w.heap.size ≤ b) : FarO G v := by
  rintro b o n c rfl hn e
  have hg := hG b e
  have hn2 := h.at_.1
  obtain ⟨b', o', u, h1, h2, h3, h4⟩ := h.el (i := 0) (by omega)
  simp only [Option.some.injEq, Addr.mk.injEq] at h1
  obtain ⟨y, hy⟩ : ∃ y, u[0]? = some y := ⟨u[0]'(by omega), List.getElem?_eq_getElem (by omega)⟩
  have := World.block_lt_of_cell? _ _ (h4 0 y hy)
  simp only at this
  omega
/-- a row of the call's own, begun later than the blocks -/
theorem FarO.own {w : World} {base : Nat} {e : TypeId} {size : Nat} {v : Value} {n : Nat} {cs : List Value} (h : w.ownsRow base e size v n cs) {G : Nat → Prop} (hG : ∀ b, G b → b < base) : FarO G v := by
  rintro b o m c rfl hn e
  have h1 := h.lt b rfl
  have h2 := hG b e
  omega
/-- all blocks but one are as they were: what lies elsewhere reads as it did -/
theorem Sl.kept {α : Type} {size : Nat} {Q Q' : World → α → List Value → Prop} {g : Option Nat} {G : Nat → Prop} {w w' : World} (k : w.grownBy w' g) (hg : ∀ b, g = some b → G b) (hQ : ∀ x u, Q w x u → Q' w' x u) {v : Value} {xs : List α} (h : Sl size Q w v xs) (hf : FarO G v) : Sl size Q' w' v xs := by
  obtain ⟨A, c, h1, h2, h3⟩ := h
  refine ⟨A, c, h1, h2, fun hl => ?_⟩
  obtain ⟨b, o, h4, h5⟩ := h3 hl
  refine ⟨b, o, h4, fun i x hx => ?_⟩
  obtain ⟨u, h6, h7, h8⟩ := h5 i x hx
  refine ⟨u, hQ x u h6, h7, fun j y hy => ?_⟩
  have h9 := h8 j y hy
  subst h4
  have hb := World.block_lt_of_cell? _ _ h9
  have hne := hf b o _ c h1 hl
  rw [World.cell?_of_block (w := w) (k.block b hb (fun e => hne (hg b e.symm)))]
  exact h9
/-- a range, an expression that is no list, an expression, an item: its cells; what they hang on lies in no block of G -/
def QR (w : World) (r : Int × Int) (u : List Value) : Prop := u = [.int .i64 r.1, .int .i64 r.2]
def QP (w : World) (p : Pl) (u : List Value) : Prop := ∃ A c, u = [.int .i64 p.k, .int .i64 p.n, .string p.s, .slice A 0 c]
def QX (G : Nat → Prop) (w : World) (x : Xp) (u : List Value) : Prop := ∃ v, u = [.int .i64 x.k, .int .i64 x.n, .string x.s, v] ∧ Sl 4 QP w v x.l ∧ FarO G v
def QI (G : Nat → Prop) (w : World) (x : It) (u : List Value) : Prop :=
  ∃ d v, u = [.int .i64 x.kind, .string x.name, .bool x.bool, d, .int .i64 x.size, .bool x.out, v, .int .i64 x.ask] ∧ Sl 2 QR w d x.dom ∧ FarO G d ∧ Sl 4 (QX G) w v x.vals ∧ FarO G v
theorem stR : St QR := fun w w' x u h k => h
theorem stP : St QP := fun w w' x u h k => h
theorem stX (G : Nat → Prop) : St (QX G) := fun w w' x u ⟨v, h1, h2, h3⟩ k => ⟨v, h1, h2.since stP k, h3⟩
theorem stI (G : Nat → Prop) : St (QI G) := fun w w' x u ⟨d, v, h1, h2, h3, h4, h5⟩ k => ⟨d, v, h1, h2.since stR k, h3, h4.since (stX G) k, h5⟩
theorem Sl.mono {α : Type} {size : Nat} {Q Q' : World → α → List Value → Prop} {w : World} (hQ : ∀ x u, Q w x u → Q' w x u) {v : Value} {xs : List α} (h : Sl size Q w v xs) : Sl size Q' w v xs := by
  obtain ⟨A, c, h1, h2, h3⟩ := h
  refine ⟨A, c, h1, h2, fun hl => ?_⟩
  obtain ⟨b, o, h4, h5⟩ := h3 hl
  refine ⟨b, o, h4, fun i x hx => ?_⟩
  obtain ⟨u, h6, h7, h8⟩ := h5 i x hx
  exact ⟨u, hQ x u h6, h7, h8⟩
theorem QX.less {G G' : Nat → Prop} {w : World} (hG : ∀ b, G' b → G b ∨ w.heap.size ≤ b) {x : Xp} {u : List Value} (h : QX G w x u) : QX G' w x u := by
  obtain ⟨v, h1, h2, h3⟩ := h
  exact ⟨v, h1, h2, (h3.or (FarO.new (G := fun b => w.heap.size ≤ b) h2 (by decide) (fun b hb => hb))).mono hG⟩
theorem QI.less {G G' : Nat → Prop} {w : World} (hG : ∀ b, G' b → G b ∨ w.heap.size ≤ b) {x : It} {u : List Value} (h : QI G w x u) : QI G' w x u := by
  obtain ⟨d, v, h1, h2, h3, h4, h5⟩ := h
  exact ⟨d, v, h1, h2, (h3.or (FarO.new (G := fun b => w.heap.size ≤ b) h2 (by decide) (fun b hb => hb))).mono hG, h4.mono (fun x u => QX.less hG), (h5.or (FarO.new (G := fun b => w.heap.size ≤ b) h4 (by decide) (fun b hb => hb))).mono hG⟩
theorem QX.none {G : Nat → Prop} {w : World} {x : Xp} {u : List Value} (h : QX G w x u) : QX noG w x u := h.less fun b hb => hb.elim
theorem QI.none {G : Nat → Prop} {w : World} {x : It} {u : List Value} (h : QI G w x u) : QI noG w x u := h.less fun b hb => hb.elim
/-- the block of a slice, and these -/
def own (G : Nat → Prop) (v : Value) : Nat → Prop := fun b => G b ∨ v.ownBlock = some b
theorem own.has {G : Nat → Prop} {v : Value} : ∀ b, v.ownBlock = some b → own G v b := fun b h => .inr h
theorem own.app {G : Nat → Prop} {v v' : Value} {m : Nat} (h : v'.ownBlock = v.ownBlock ∨ v'.ownBlock = some m) : ∀ b, own G v' b → own G v b ∨ m ≤ b := by
  rintro b (hb | hb)
  · exact .inl (.inl hb)
  · rcases h with h | h
    · exact .inl (.inr (h.symm.trans hb))
    · rw [h] at hb
      injection hb with hb
      exact .inr (by omega)
abbrev Exprs (w : World) (v : Value) (xs : List Xp) : Prop := Sl 4 (QX noG) w v xs
theorem takeR {α : Type} {xs : List α} {k : Nat} (h : k < xs.length) : xs.take (k + 1) = xs.take k ++ [xs[k]] := List.take_succ_eq_append_getElem h
/-- an element of such a slice, cell by cell -/
theorem elR {w : World} {A : Option Addr} {n c : Nat} {xs : List (Int × Int)} (h : Sl 2 QR w (.slice A n c) xs) {i : Nat} (hi : i < xs.length) :
    ∃ b o, A = some ⟨b, o, none⟩ ∧ w.cell? ⟨b, o + i * 2, none⟩ = some (.int .i64 xs[i].1) ∧ w.cell? ⟨b, o + i * 2 + 1, none⟩ = some (.int .i64 xs[i].2) := by
  obtain ⟨b, o, u, h1, h2, h3, h4⟩ := h.el hi
  cases h2
  exact ⟨b, o, h1, h4 0 _ rfl, h4 1 _ rfl⟩
theorem elI {G : Nat → Prop} {w : World} {A : Option Addr} {n c : Nat} {xs : List It} (h : Sl 8 (QI G) w (.slice A n c) xs) {i : Nat} (hi : i < xs.length) :
    ∃ b o A1 c1 A2 c2, A = some ⟨b, o, none⟩ ∧ Sl 2 QR w (.slice A1 xs[i].dom.length c1) xs[i].dom ∧ FarO G (.slice A1 xs[i].dom.length c1) ∧ Exprs w (.slice A2 xs[i].vals.length c2) xs[i].vals ∧
      w.cell? ⟨b, o + i * 8, none⟩ = some (.int .i64 xs[i].kind) ∧ w.cell? ⟨b, o + i * 8 + 1, none⟩ = some (.string xs[i].name) ∧ w.cell? ⟨b, o + i * 8 + 2, none⟩ = some (.bool xs[i].bool) ∧ w.cell? ⟨b, o + i * 8 + 3, none⟩ = some (.slice A1 xs[i].dom.length c1) ∧
      w.cell? ⟨b, o + i * 8 + 4, none⟩ = some (.int .i64 xs[i].size) ∧ w.cell? ⟨b, o + i * 8 + 5, none⟩ = some (.bool xs[i].out) ∧ w.cell? ⟨b, o + i * 8 + 6, none⟩ = some (.slice A2 xs[i].vals.length c2) ∧ w.cell? ⟨b, o + i * 8 + 7, none⟩ = some (.int .i64 xs[i].ask) := by
  obtain ⟨b, o, u, h1, ⟨d, v, h2, h5, hf, h6, -⟩, h3, h4⟩ := h.el hi
  subst h2
  obtain ⟨A1, c1, rfl⟩ := h5.form
  obtain ⟨A2, c2, rfl⟩ := h6.form
  exact ⟨b, o, A1, c1, A2, c2, h1, h5, hf, h6.mono (fun x u => QX.none), h4 0 _ rfl, h4 1 _ rfl, h4 2 _ rfl, h4 3 _ rfl, h4 4 _ rfl, h4 5 _ rfl, h4 6 _ rfl, h4 7 _ rfl⟩
end Go.Proofs.Ytilgmkhcpmegjaa.Ti
