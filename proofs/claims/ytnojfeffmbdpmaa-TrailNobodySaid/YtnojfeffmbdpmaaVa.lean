/- Layer 10 (trail): a world seen without the blocks that a store keeps for itself. No code is spoken of. -/
import Derived.Test.YtnojfeffmbdpmaaFc
import Derived.Test.YtnojfeffmbdpmaaProg
import Derived.Maps.RangeWalk
namespace Go.Proofs.Ytnojfeffmbdpmaa.Tr
open Go.RowKit
set_option linter.unusedVariables false
set_option linter.unusedSimpArgs false
open Go.Proofs.Ytnojfeffmbdpmaa.Dig Go.Proofs.Ytnojfeffmbdpmaa.Lx Go.Proofs.Ytnojfeffmbdpmaa.Tk Go.Proofs.Ytnojfeffmbdpmaa.Ti Go.Proofs.Ytnojfeffmbdpmaa.Zs

/-- the world, but for what lies in G -/
def veil (G : Nat → Bool) (w : World) : World := { w with heap := w.heap.mapIdx fun i o => if G i then Obj.cells #[] 0 else o }
theorem veil_at (G : Nat → Bool) (w : World) (k : Nat) : (veil G w).heap[k]? = (w.heap[k]?).map fun o => if G k then Obj.cells #[] 0 else o := by simp [veil]
theorem veil_size (G : Nat → Bool) (w : World) : (veil G w).heap.size = w.heap.size := by simp [veil]
theorem veil_off {G : Nat → Bool} {k : Nat} (w : World) (h : G k = false) : (veil G w).heap[k]? = w.heap[k]? := by
  rw [veil_at]; simp [h]
theorem veil_cell {G : Nat → Bool} {w : World} {a : Addr} {v : Value} (h : (veil G w).cell? a = some v) : w.cell? a = some v ∧ G a.block = false := by
  have hb : G a.block = false := by
    cases hg : G a.block with
    | false => rfl
    | true =>
      exfalso
      unfold World.cell? at h
      rw [veil_at] at h
      cases hc : w.heap[a.block]? <;> simp [hg, hc] at h
  exact ⟨by rw [World.cell?_of_block (w := w) (veil_off w hb)] at h; exact h, hb⟩
/-- blocks of G alone have turned, and what is new -/
structure Turn (G : Nat → Bool) (w w' : World) : Prop where
  os : w'.os = w.os
  tape : w'.tape = w.tape
  output : w'.output = w.output
  size : w.heap.size ≤ w'.heap.size
  block : ∀ k, k < w.heap.size → G k = false → w'.heap[k]? = w.heap[k]?
theorem Turn.refl (G : Nat → Bool) (w : World) : Turn G w w := ⟨rfl, rfl, rfl, Nat.le_refl _, fun _ _ _ => rfl⟩
theorem Turn.trans {G : Nat → Bool} {a b c : World} (h : Turn G a b) (k : Turn G b c) : Turn G a c :=
  ⟨k.os.trans h.os, k.tape.trans h.tape, k.output.trans h.output, Nat.le_trans h.size k.size, fun i hi hg => (k.block i (Nat.lt_of_lt_of_le hi h.size) hg).trans (h.block i hi hg)⟩
theorem Turn.of {w w' : World} (h : Since w w') (G : Nat → Bool) : Turn G w w' := ⟨h.os, h.tape, h.output, h.size, fun k hk _ => h.block k hk⟩
theorem Turn.since {G : Nat → Bool} {a b c : World} (h : Turn G a b) (k : Since b c) : Turn G a c := h.trans (.of k G)
theorem Turn.grown {G : Nat → Bool} {a w w' : World} (h : Turn G a w) {g : Option Nat} (k : w.grownBy w' g) (hg : ∀ b, g = some b → b < a.heap.size → G b = true) : Turn G a w' :=
  ⟨k.os.trans h.os, k.tape.trans h.tape, k.output.trans h.output, Nat.le_trans h.size k.size, fun i hi h0 => (k.block i (Nat.lt_of_lt_of_le hi h.size) (fun e => by
    have := hg i e.symm hi
    rw [h0] at this; cases this)).trans (h.block i hi h0)⟩
theorem Turn.set {G : Nat → Bool} {a w : World} (h : Turn G a w) {p : Addr} (hp : p.block < a.heap.size → G p.block = true) (u : Value) : Turn G a (w.setCell p u) :=
  ⟨h.os, h.tape, h.output, Nat.le_trans h.size (by simp [World.setCell]), fun i hi h0 => (Below.heap_setCell w p u i (by
    rintro rfl
    have := hp hi
    rw [h0] at this; cases this)).trans (h.block i hi h0)⟩
theorem Turn.veil {G G' : Nat → Bool} {w w' : World} (h : Turn G w w') (hG : ∀ k, k < w.heap.size → G' k = G k) : Since (veil G w) (Tr.veil G' w') := by
  refine ⟨h.os, h.tape, h.output, by rw [veil_size, veil_size]; exact h.size, fun k hk => ?_⟩
  rw [veil_size] at hk
  rw [veil_at, veil_at, hG k hk]
  cases hg : G k with
  | false => rw [h.block k hk hg]
  | true =>
    have h1 : k < w'.heap.size := Nat.lt_of_lt_of_le hk h.size
    rw [Array.getElem?_eq_getElem hk, Array.getElem?_eq_getElem h1]; rfl
theorem Since.veil {w w' : World} (h : Since w w') (G : Nat → Bool) : Since (veil G w) (Tr.veil G w') := (Turn.of h G).veil fun _ _ => rfl
/-- what is seen through the veil is there -/
theorem Sl.unveil {α : Type} {size : Nat} {Q Q' : World → α → List Value → Prop} {G : Nat → Bool} {w : World} (hQ : ∀ x u, Q (veil G w) x u → Q' w x u) {v : Value} {xs : List α} (h : Sl size Q (veil G w) v xs) : Sl size Q' w v xs := by
  obtain ⟨A, c, h1, h2, h3⟩ := h
  refine ⟨A, c, h1, h2, fun hl => ?_⟩
  obtain ⟨b, o, h4, h5⟩ := h3 hl
  refine ⟨b, o, h4, fun i x hx => ?_⟩
  obtain ⟨u, h6, h7, h8⟩ := h5 i x hx
  exact ⟨u, hQ x u h6, h7, fun j y hy => (veil_cell (h8 j y hy)).1⟩
theorem Sl.veil {α : Type} {size : Nat} {Q Q' : World → α → List Value → Prop} {G : Nat → Bool} {w : World} (hQ : ∀ x u, Q w x u → Q' (veil G w) x u) {v : Value} {xs : List α} (h : Sl size Q w v xs) (hf : ∀ b, v.ownBlock = some b → b < w.heap.size → G b = false) : Sl size Q' (veil G w) v xs := by
  obtain ⟨A, c, h1, h2, h3⟩ := h
  refine ⟨A, c, h1, h2, fun hl => ?_⟩
  obtain ⟨b, o, h4, h5⟩ := h3 hl
  refine ⟨b, o, h4, fun i x hx => ?_⟩
  obtain ⟨u, h6, h7, h8⟩ := h5 i x hx
  refine ⟨u, hQ x u h6, h7, fun j y hy => ?_⟩
  have h9 := h8 j y hy
  have hb := hf b (by rw [h1, h4]; rfl) (World.block_lt_of_cell? _ _ h9)
  rw [World.cell?_of_block (w := w) (a := ⟨b, o + i * size + j, none⟩) (veil_off w hb)]
  exact h9
theorem qd_unveil {G : Nat → Bool} {w : World} {d : List Rn} {u : List Value} (h : QD (veil G w) d u) : QD w d u := by
  obtain ⟨v, h1, h2⟩ := h
  exact ⟨v, h1, Sl.unveil (Q := QR) (Q' := QR) (fun _ _ h => h) h2⟩
theorem sl_unveil {G : Nat → Bool} {w : World} {v : Value} {d : List Rn} (h : Sl 2 QR (veil G w) v d) : Sl 2 QR w v d := Sl.unveil (Q := QR) (Q' := QR) (fun _ _ h => h) h
theorem sld_unveil {G : Nat → Bool} {w : World} {v : Value} {ds : Ds} (h : Sl 1 QD (veil G w) v ds) : Sl 1 QD w v ds := Sl.unveil (Q := QD) (Q' := QD) (fun _ _ h => qd_unveil h) h
theorem slw_unveil {G : Nat → Bool} {w : World} {v : Value} {ds : List Ds} (h : Sl 1 QW (veil G w) v ds) : Sl 1 QW w v ds := Sl.unveil (Q := QW) (Q' := QW) (fun _ _ ⟨v, h1, h2⟩ => ⟨v, h1, sld_unveil h2⟩) h
theorem slb_unveil {G : Nat → Bool} {w : World} {v : Value} {bs : List Bool} (h : Sl 1 QB (veil G w) v bs) : Sl 1 QB w v bs := Sl.unveil (Q := QB) (Q' := QB) (fun _ _ h => h) h
theorem StoreAt.unveil {G : Nat → Bool} {w : World} {v : Value} {s : Sto} (h : StoreAt (veil G w) v s) : StoreAt w v s := by
  obtain ⟨a, b, c, h1, h2, h3, h4⟩ := h
  exact ⟨a, b, c, h1, sld_unveil h2, slw_unveil h3, slb_unveil h4⟩
/-- new ranges are seen through the veil -/
theorem sl_veil {G : Nat → Bool} {w : World} {v : Value} {d : List Rn} (h : Sl 2 QR w v d) (hf : ∀ b, v.ownBlock = some b → b < w.heap.size → G b = false) : Sl 2 QR (veil G w) v d := Sl.veil (Q := QR) (Q' := QR) (fun _ _ h => h) h hf
section
open Go.RowKit
set_option linter.unusedVariables false
set_option linter.unusedSimpArgs false
open Go.Proofs.Ytnojfeffmbdpmaa.Dig Go.Proofs.Ytnojfeffmbdpmaa.Lx Go.Proofs.Ytnojfeffmbdpmaa.Tk Go.Proofs.Ytnojfeffmbdpmaa.Ti Go.Proofs.Ytnojfeffmbdpmaa.Zs
open Go.Maps (has Keyed)

/-- a map's element: a slice, as it stands -/
def heldR : Value → Option (DataW Value × List MemPlace)
  | .slice A n c => some (.held (.slice A n c), [])
  | _ => none
theorem heldR_inv {v : Value} {y : DataW Value × List MemPlace} (h : heldR v = some y) : y.1 = .held v ∧ ∃ A n c, v = .slice A n c := by
  cases v <;> simp [heldR] at h
  subst h
  exact ⟨rfl, _, _, _, rfl⟩
theorem keyI : Keyed Try.prog 3 := Maps.int_keyed Try.underlying3
abbrev ik (k : Nat) : Lit := .int .i64 (k : Int)
theorem ik_key (k : Nat) : WideAt.IsKeyLit (ik k) := trivial
theorem ik_inj {j k : Nat} (h : ik j = ik k) : j = k := by injection h with _ h; omega
/-- what a level keeps -/
abbrev Kp := Nat → Option (List Rn)
def MapAt (G : Nat → Bool) (N n : Nat) (w : World) (m : Nat) (f : Kp) : Prop :=
  ∃ D : DataW Value, w.ownsMap Try.prog 3 heldR m N D ∧ (∀ kl, has D kl = true → ∃ k : Nat, k < n ∧ kl = ik k) ∧
    ∀ k, k < n → has D (ik k) = (f k).isSome ∧ ∀ d, f k = some d → ∃ v, (∀ z, D.atKey (ik k) z = .held v) ∧ Sl 2 QR (veil G w) v d
def SetAt (N : Nat) (w : World) (m : Nat) (F : List Bool) : Prop :=
  ∃ D : DataW Value, w.ownsMap Try.prog 3 unitElem m N D ∧ ∀ kl, has D kl = true ↔ ∃ k : Nat, F[k]? = some true ∧ kl = ik k
def restore (cur : Ds) (f : Kp) : Ds := cur.mapIdx fun i y => (f i).getD y
theorem restore_len (cur : Ds) (f : Kp) : (restore cur f).length = cur.length := by simp [restore]
theorem restore_at (cur : Ds) (f : Kp) (i : Nat) : (restore cur f)[i]? = (cur[i]?).map fun y => (f i).getD y := by simp [restore]
/-- the levels, the last one first: what was, and the map that leads back to it; P holds of the last one's -/
def Lvs (G : Nat → Bool) (N n : Nat) (w : World) : (Kp → Prop) → Ds → List Ds → List Nat → Prop
  | _, _, [], [] => True
  | P, cur, d :: ws, m :: ms => (∃ f, MapAt G N n w m f ∧ restore cur f = d ∧ P f) ∧ Lvs G N n w (fun _ => True) d ws ms
  | _, _, _, _ => False
/-- the row of domains -/
def Doms (w : World) (ds : Ds) (cs : List Value) : Prop := ∀ (i : Nat) (d : List Rn), ds[i]? = some d → ∃ v, cs[i]? = some v ∧ Sl 2 QR w v d
structure Trl (G : Nat → Bool) (N : Nat) (P : Kp → Prop) (w : World) (b : Nat) (s : Sto) (vD vL : Value) (mc : Nat) (ms : List Nat) (cs : List Value) : Prop where
  bx : Bx w b #[vD, vL, .map (some mc)] 62
  rowD : w.ownsRow 0 33 1 vD s.D.length cs
  domD : Doms (veil G w) s.D cs
  rowL : w.ownsRow 0 71 1 vL ms.length (ms.map fun m => Value.map (some m))
  lvs : Lvs G N s.D.length w P s.D s.W.reverse ms.reverse
  chg : SetAt N w mc s.F
  nod : (mc :: ms).Nodup
  gb : G b = true
  gD : ∀ g, vD.ownBlock = some g → G g = true
  gL : ∀ g, vL.ownBlock = some g → G g = true
  gM : ∀ m ∈ mc :: ms, G m = true
  ok : Ok s
/-- the landed store at a block; its own blocks are those of G -/
def TrailAt (G : Nat → Bool) (N : Nat) (w : World) (b : Nat) (s : Sto) : Prop := ∃ vD vL mc ms cs, Trl G N (fun _ => True) w b s vD vL mc ms cs
theorem ownsMap_at {H : Type} {P : Program} {k : TypeId} {R : Value → Option (DataW H × List MemPlace)} {w w' : World} {b n : Nat} {D : DataW H} (h : w.ownsMap P k R b n D) (e : w'.heap[b]? = w.heap[b]?) : w'.ownsMap P k R b n D := by
  obtain ⟨es, clock, hb, r⟩ := h
  exact ⟨es, clock, e.trans hb, r⟩
theorem MapAt.keep {G G' : Nat → Bool} {N N' n : Nat} {w w' : World} {m : Nat} {f : Kp} (h : MapAt G N n w m f) (hN : N ≤ N') (e : w'.heap[m]? = w.heap[m]?) (k : Since (veil G w) (veil G' w')) : MapAt G' N' n w' m f := by
  obtain ⟨D, h1, h2, h3⟩ := h
  refine ⟨D, ownsMap_at (h1.mono hN) e, h2, fun i hi => ⟨(h3 i hi).1, fun d hd => ?_⟩⟩
  obtain ⟨v, h4, h5⟩ := (h3 i hi).2 d hd
  exact ⟨v, h4, h5.since stR k⟩
theorem SetAt.keep {N N' : Nat} {w w' : World} {m : Nat} {F : List Bool} (h : SetAt N w m F) (hN : N ≤ N') (e : w'.heap[m]? = w.heap[m]?) : SetAt N' w' m F := by
  obtain ⟨D, h1, h2⟩ := h
  exact ⟨D, ownsMap_at (h1.mono hN) e, h2⟩
theorem Lvs.keep {G G' : Nat → Bool} {N N' n : Nat} {w w' : World} (hN : N ≤ N') (k : Since (veil G w) (veil G' w')) : ∀ {P Q : Kp → Prop} {cur : Ds} {ws : List Ds} {ms : List Nat}, (∀ f, P f → Q f) → Lvs G N n w P cur ws ms → (∀ m ∈ ms, w'.heap[m]? = w.heap[m]?) → Lvs G' N' n w' Q cur ws ms
  | _, _, _, [], [], _, _, _ => trivial
  | P, Q, cur, d :: ws, m :: ms, hq, h, e => by
    obtain ⟨⟨f, h1, h2, h3⟩, h4⟩ := h
    exact ⟨⟨f, h1.keep hN (e m (by simp)) k, h2, hq f h3⟩, Lvs.keep hN k (fun _ h => h) h4 fun m' hm => e m' (by simp [hm])⟩
  | _, _, _, [], _ :: _, _, h, _ => h.elim
  | _, _, _, _ :: _, [], _, h, _ => h.elim
theorem Doms.since {w w' : World} {ds : Ds} {cs : List Value} (h : Doms w ds cs) (k : Since w w') : Doms w' ds cs := fun i d hd => by
  obtain ⟨v, h1, h2⟩ := h i d hd
  exact ⟨v, h1, h2.since stR k⟩
theorem Doms.set {w : World} {ds : Ds} {cs : List Value} (h : Doms w ds cs) (x : Nat) {v : Value} {d : List Rn} (hv : Sl 2 QR w v d) (hx : x < cs.length) : Doms w (ds.set x d) (cs.set x v) := fun i d' hd => by
  by_cases e : x = i
  · subst e
    rw [List.getElem?_set] at hd
    simp only [if_true] at hd
    split at hd
    · cases hd
      exact ⟨v, by rw [List.getElem?_set]; simp [hx], hv⟩
    · cases hd
  · rw [List.getElem?_set_ne e] at hd
    obtain ⟨u, h1, h2⟩ := h i d' hd
    exact ⟨u, by rw [List.getElem?_set_ne e]; exact h1, h2⟩
theorem own_lt {w : World} {base : Nat} {e : TypeId} {size : Nat} {v : Value} {n : Nat} {xs : List Value} (h : w.ownsRow base e size v n xs) {g : Nat} (hg : v.ownBlock = some g) : g < w.heap.size := (h.lt g hg).2
theorem own_at {w w' : World} {base base' : Nat} {e : TypeId} {size : Nat} {v : Value} {n : Nat} {xs : List Value} (h : w.ownsRow base e size v n xs) (hb : base' ≤ base) (k : ∀ g, v.ownBlock = some g → w'.heap[g]? = w.heap[g]?) : w'.ownsRow base' e size v n xs := by
  refine ⟨h.1, ?_⟩
  rcases h.2 with h1 | ⟨g, cap, cur, h1, h2, h3, h4⟩
  · exact .inl h1
  · refine .inr ⟨g, cap, cur, h1, Nat.le_trans hb h2, ?_, h4⟩
    rw [k g (by rw [h1]; rfl)]; exact h3
/-- blocks of unlike kinds are unlike -/
theorem own_ne {w : World} {base base' : Nat} {e e' : TypeId} {size size' : Nat} {v v' : Value} {n n' : Nat} {xs xs' : List Value} (h : w.ownsRow base e size v n xs) (h' : w.ownsRow base' e' size' v' n' xs') (he : e ≠ e') {g g' : Nat} (hg : v.ownBlock = some g) (hg' : v'.ownBlock = some g') : g ≠ g' := by
  rintro rfl
  rcases h.2 with ⟨h1, -⟩ | ⟨a, cap, cur, h1, -, h3, -⟩
  · rw [h1] at hg; cases hg
  rcases h'.2 with ⟨h1', -⟩ | ⟨a', cap', cur', h1', -, h3', -⟩
  · rw [h1'] at hg'; cases hg'
  rw [h1] at hg; rw [h1'] at hg'
  cases hg; cases hg'
  rw [h3] at h3'
  injection h3' with h3'
  injection h3' with _ h4
  exact he h4
theorem own_bx {w : World} {base : Nat} {e t : TypeId} {size : Nat} {v : Value} {n b : Nat} {xs : List Value} {cs : Array Value} (h : w.ownsRow base e size v n xs) (hb : Bx w b cs t) (he : e ≠ t) {g : Nat} (hg : v.ownBlock = some g) : g ≠ b := by
  rintro rfl
  rcases h.2 with ⟨h1, -⟩ | ⟨a, cap, cur, h1, -, h3, -⟩
  · rw [h1] at hg; cases hg
  rw [h1] at hg
  cases hg
  unfold Bx at hb
  rw [h3] at hb
  injection hb with hb
  injection hb with _ h4
  exact he h4
theorem own_map {H : Type} {P : Program} {k : TypeId} {R : Value → Option (DataW H × List MemPlace)} {w : World} {base : Nat} {e : TypeId} {size : Nat} {v : Value} {n m N : Nat} {xs : List Value} {D : DataW H} (h : w.ownsRow base e size v n xs) (hm : w.ownsMap P k R m N D) {g : Nat} (hg : v.ownBlock = some g) : g ≠ m := by
  rintro rfl
  obtain ⟨es, clock, hb, -⟩ := hm
  rcases h.2 with ⟨h1, -⟩ | ⟨a, cap, cur, h1, -, h3, -⟩
  · rw [h1] at hg; cases hg
  rw [h1] at hg
  cases hg
  rw [h3] at hb
  cases hb
theorem bx_map {H : Type} {P : Program} {k : TypeId} {R : Value → Option (DataW H × List MemPlace)} {w : World} {b m N : Nat} {cs : Array Value} {t : TypeId} {D : DataW H} (hb : Bx w b cs t) (hm : w.ownsMap P k R m N D) : b ≠ m := by
  rintro rfl
  obtain ⟨es, clock, h, -⟩ := hm
  unfold Bx at hb
  rw [h] at hb
  cases hb
theorem Lvs.map {G : Nat → Bool} {N n : Nat} {w : World} : ∀ {P : Kp → Prop} {cur : Ds} {ws : List Ds} {ms : List Nat}, Lvs G N n w P cur ws ms → ∀ m ∈ ms, ∃ f, MapAt G N n w m f
  | _, _, [], [], _, m, hm => by cases hm
  | _, _, d :: ws, m' :: ms, h, m, hm => by
    obtain ⟨⟨f, h1, h2, h3⟩, h4⟩ := h
    rcases List.mem_cons.1 hm with rfl | hm
    · exact ⟨f, h1⟩
    · exact Lvs.map h4 m hm
  | _, _, [], _ :: _, h, _, _ => h.elim
  | _, _, _ :: _, [], h, _, _ => h.elim
theorem Lvs.len {G : Nat → Bool} {N n : Nat} {w : World} : ∀ {P : Kp → Prop} {cur : Ds} {ws : List Ds} {ms : List Nat}, Lvs G N n w P cur ws ms → ws.length = ms.length
  | _, _, [], [], _ => rfl
  | _, _, d :: ws, m' :: ms, h => by simp [Lvs.len h.2]
  | _, _, [], _ :: _, h => h.elim
  | _, _, _ :: _, [], h => h.elim
/-- a domain that the last level has kept may turn -/
theorem restore_set {cur : Ds} {f : Kp} {x : Nat} (h : (f x).isSome = true) (d : List Rn) : restore (cur.set x d) f = restore cur f := by
  apply List.ext_getElem?
  intro i
  rw [restore_at, restore_at]
  by_cases e : x = i
  · subst e
    rw [List.getElem?_set]
    obtain ⟨y, hy⟩ := Option.isSome_iff_exists.1 h
    by_cases hx : x < cur.length
    · simp [hx, hy]
    · simp [hx]
  · rw [List.getElem?_set_ne e]
theorem restore_keep {cur : Ds} {f : Kp} {x : Nat} {y : List Rn} (hx : cur[x]? = some y) (h : f x = none) : restore cur (fun k => if k = x then some y else f k) = restore cur f := by
  apply List.ext_getElem?
  intro i
  rw [restore_at, restore_at]
  by_cases e : i = x
  · subst e
    simp [hx, h]
  · simp [e]
theorem Lvs.set {G : Nat → Bool} {N n x : Nat} {w : World} {cur : Ds} {ws : List Ds} {ms : List Nat} (h : Lvs G N n w (fun f => (f x).isSome = true) cur ws ms) (d : List Rn) : Lvs G N n w (fun f => (f x).isSome = true) (cur.set x d) ws ms := by
  match ws, ms, h with
  | [], [], _ => trivial
  | d' :: ws, m :: ms, ⟨⟨f, h1, h2, h3⟩, h4⟩ => exact ⟨⟨f, h1, (restore_set h3 d).trans h2, h3⟩, h4⟩
theorem MapAt.made (G : Nat → Bool) (N n : Nat) (w : World) : MapAt G N n (w.alloc (.map #[] 0)) w.heap.size (fun _ => none) := by
  refine ⟨.map [], (World.ownsMap_made w _ _ _).mono (Nat.zero_le _), fun kl h => by simp [Maps.has] at h, fun k hk => ⟨rfl, fun d hd => by cases hd⟩⟩
theorem MapAt.put {G G' : Nat → Bool} {N n x : Nat} {w w' : World} {m : Nat} {f : Kp} (h : MapAt G N n w m f) (k : Since (veil G w) (veil G' w')) (hx : x < n) {D : DataW Value} (hD : w.ownsMap Try.prog 3 heldR m N D) {v : Value}
    (ho : w'.ownsMap Try.prog 3 heldR m (N + 1) (D.put (ik x) (.held v))) {d : List Rn} (hv : Sl 2 QR (veil G' w') v d) : MapAt G' (N + 1) n w' m (fun k => if k = x then some d else f k) := by
  obtain ⟨D0, h1, h2, h3⟩ := h
  have e : D0 = D := by
    obtain ⟨es, clock, hb, _, _, rfl⟩ := h1
    obtain ⟨es', clock', hb', _, _, rfl⟩ := hD
    rw [hb] at hb'
    cases hb'
    rfl
  subst e
  have im := h1.isMap
  refine ⟨_, ho, fun kl hk => ?_, fun i hi => ?_⟩
  · by_cases e : kl = ik x
    · exact ⟨x, hx, e⟩
    · rw [Maps.has_put_other e] at hk
      exact h2 kl hk
  · by_cases e : i = x
    · subst e
      simp only [if_true]
      exact ⟨by rw [Maps.has_put_same im (ik_key _)]; rfl, fun d' hd => by cases hd; exact ⟨v, fun z => Maps.atKey_put_same im (ik_key _) _ z, hv⟩⟩
    · have ne : ik i ≠ ik x := fun h => e (ik_inj h)
      simp only [e, if_false]
      refine ⟨by rw [Maps.has_put_other ne]; exact (h3 i hi).1, fun d' hd => ?_⟩
      obtain ⟨u, h4, h5⟩ := (h3 i hi).2 d' hd
      exact ⟨u, fun z => (Maps.atKey_put_other ne _ z).trans (h4 z), h5.since stR k⟩
theorem SetAt.made (N : Nat) (w : World) (n : Nat) : SetAt N (w.alloc (.map #[] 0)) w.heap.size (List.replicate n false) := by
  refine ⟨.map [], (World.ownsMap_made w _ _ _).mono (Nat.zero_le _), fun kl => ⟨fun h => by simp [Maps.has] at h, fun ⟨k, h, _⟩ => ?_⟩⟩
  rw [List.getElem?_replicate] at h
  split at h <;> simp at h
theorem SetAt.put {N x : Nat} {w w' : World} {m : Nat} {F : List Bool} (h : SetAt N w m F) (hx : x < F.length) {D : DataW Value} (hD : w.ownsMap Try.prog 3 unitElem m N D) {u : DataW Value} (ho : w'.ownsMap Try.prog 3 unitElem m (N + 1) (D.put (ik x) u)) : SetAt (N + 1) w' m (F.set x true) := by
  obtain ⟨D0, h1, h2⟩ := h
  have e : D0 = D := by
    obtain ⟨es, clock, hb, _, _, rfl⟩ := h1
    obtain ⟨es', clock', hb', _, _, rfl⟩ := hD
    rw [hb] at hb'
    cases hb'
    rfl
  subst e
  refine ⟨_, ho, fun kl => ?_⟩
  by_cases e : kl = ik x
  · subst e
    rw [Maps.has_put_same h1.isMap (ik_key _)]
    exact ⟨fun _ => ⟨x, by simp [hx], rfl⟩, fun _ => rfl⟩
  · rw [Maps.has_put_other e, h2]
    refine ⟨fun ⟨k, h3, h4⟩ => ⟨k, ?_, h4⟩, fun ⟨k, h3, h4⟩ => ⟨k, ?_, h4⟩⟩
    · rw [List.getElem?_set_ne (fun e2 => e (by rw [h4, e2]))]; exact h3
    · rw [List.getElem?_set_ne (fun e2 => e (by rw [h4, e2]))] at h3; exact h3
end
end Go.Proofs.Ytnojfeffmbdpmaa.Tr
