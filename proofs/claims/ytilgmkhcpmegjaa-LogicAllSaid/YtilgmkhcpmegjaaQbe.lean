/- Layer 12 (linear): domains whose ranges are written to one by one; of variables that a sum does not have nothi -/
import Derived.Deep.MidRow
import Derived.Laws.IdiomCopy
import Derived.Test.YtilgmkhcpmegjaaQan
import Derived.ChangeSame
import Derived.Deep.Fields
import Derived.Deep.Slices
import Derived.OpenShut
set_option linter.unusedVariables false
set_option linter.unusedSimpArgs false
section
namespace Go.Proofs.Ytilgmkhcpmegjaa.Ln
open Go.RowKit
open Go.Proofs.Ytilgmkhcpmegjaa.Dig Go.Proofs.Ytilgmkhcpmegjaa.Lx Go.Proofs.Ytilgmkhcpmegjaa.Tk Go.Proofs.Ytilgmkhcpmegjaa.Ti Go.Proofs.Ytilgmkhcpmegjaa.Zs Go.Proofs.Ytilgmkhcpmegjaa.Tr Go.Proofs.Ytilgmkhcpmegjaa.Sn
theorem rw_new {w0 w : World} {v : Value} {xs : List Rn} (h : Rw w0 w v xs) : NewR w0 w v xs := ⟨h.sl, fun b hb => ⟨(h.1.lt b hb).1, (h.1.lt b hb).2, owns_frozen h.1 hb⟩⟩
theorem Turn.bx {G : Nat → Bool} {w w' : World} (h : Turn G w w') {b : Nat} {cs : Array Value} {t : TypeId} (hb : Bx w b cs t) (hG : G b = false) : Bx w' b cs t := by
  have hl := hb.lt
  unfold Bx at *
  rw [h.block b hl hG]; exact hb
theorem Turn.mono {G G' : Nat → Bool} {w w' : World} (h : Turn G w w') (hG : ∀ b, G' b = false → G b = false) : Turn G' w w' := ⟨h.os, h.tape, h.output, h.size, fun k hk e => h.block k hk (hG k e)⟩
/-- what lies ahead of B -/
def low (B : Nat) : Nat → Bool := fun b => decide (B ≤ b)
theorem low_no {B b : Nat} (h : b < B) : low B b = false := by simp [low]; omega
/-- the domains in memory of the call's own, from B on -/
structure Out (g n : Nat) (cs : Array Value) (B : Nat) (w : World) (E : Ds) : Prop where
  row : Bx w g cs 43
  size : cs.size = n
  len : E.length = n
  gB : B ≤ g
  el : ∀ (i : Nat) (d : List Rn), E[i]? = some d → ∃ b o c, cs[i]? = some (.slice (some ⟨b, o, none⟩) d.length c) ∧ Sl 2 QR w (.slice (some ⟨b, o, none⟩) d.length c) d ∧ 0 < d.length ∧ B ≤ b ∧ b < w.heap.size ∧ b ≠ g ∧ ∀ j, w.frozen? ⟨b, j, none⟩ = false
  apart : ∀ (i j : Nat) (u u' : Value), cs[i]? = some u → cs[j]? = some u' → i ≠ j → ∀ b, u.ownBlock = some b → u'.ownBlock ≠ some b
theorem DAt.outs {g n : Nat} {w5 w : World} {E : Ds} (h : DAt g n w5 w E) (hE : Gd E) (hg : w5.heap.size ≤ g) : ∃ cs, Out g n cs w5.heap.size w E := by
  obtain ⟨hl, cs, h1, h2, h3, h9⟩ := h
  refine ⟨cs, h1, h2, hl, hg, fun i d hd => ?_, h9⟩
  obtain ⟨u, h4, h5, h6⟩ := h3 i d hd
  have hd2 : d ≠ [] := (hE d (List.mem_of_getElem? hd)).2
  have hp : 0 < d.length := List.length_pos_iff.2 hd2
  obtain ⟨A, c, rfl⟩ := h5.form
  obtain ⟨b, o, rfl, e0, -⟩ := elR h5 (i := 0) hp
  have hbg := (veil_cell e0).2
  have h7 := h6 b rfl
  exact ⟨b, o, c, h4, sl_unveil h5, hp, h7.1, h7.2.1, by simpa [but] using hbg, h7.2.2⟩
theorem Out.since {g n : Nat} {cs : Array Value} {B : Nat} {w w' : World} {E : Ds} (h : Out g n cs B w E) (k : Since w w') : Out g n cs B w' E :=
  ⟨h.row.since k, h.size, h.len, h.gB, fun i d hd => by
    obtain ⟨b, o, c, h1, h2, h3, h4, h5, h6, h7⟩ := h.el i d hd
    exact ⟨b, o, c, h1, h2.since stR k, h3, h4, Nat.lt_of_lt_of_le h5 k.size, h6, fun j => (World.frozen?_of_block (w := w) (a := ⟨b, j, none⟩) (k.block b h5)).trans (h7 j)⟩, h.apart⟩
open Classical in
/-- the blocks of the first k domains -/
noncomputable def hot (cs : Array Value) (k : Nat) : Nat → Bool := fun b => decide (∃ i, i < k ∧ ∃ u : Value, cs[i]? = some u ∧ u.ownBlock = some b)
theorem hot_no {cs : Array Value} {k b : Nat} (h : ∀ (i : Nat) (u : Value), i < k → cs[i]? = some u → u.ownBlock ≠ some b) : hot cs k b = false := by
  simp only [hot, decide_eq_false_iff_not]
  rintro ⟨i, hi, u, hu, hb⟩
  exact h i u hi hu hb
theorem hot_yes {cs : Array Value} {k b : Nat} {u : Value} (hu : cs[k]? = some u) (hb : u.ownBlock = some b) : hot cs (k + 1) b = true := by
  simp only [hot, decide_eq_true_eq]
  exact ⟨k, by omega, u, hu, hb⟩
theorem hot_next {cs : Array Value} {k b : Nat} (h : hot cs (k + 1) b = false) : hot cs k b = false := by
  simp only [hot, decide_eq_false_iff_not] at h ⊢
  rintro ⟨i, hi, u, hu, hb⟩
  exact h ⟨i, by omega, u, hu, hb⟩
section
variable {g n : Nat} {cs : Array Value} {B : Nat} {w : World} {E : Ds} (h : Out g n cs B w E)
include h
theorem Out.hot_low {k : Nat} {b : Nat} (hb : low B b = false) : hot cs k b = false := hot_no fun i u _ hu e => by
  have hi : i < cs.size := (Array.getElem?_eq_some_iff.1 hu).1
  have hi2 : i < E.length := by rw [h.len, ← h.size]; exact hi
  obtain ⟨b', o, c, h1, h2, h3, h4, -⟩ := h.el i _ (List.getElem?_eq_getElem hi2)
  rw [hu] at h1
  cases h1
  injection e with e
  subst e
  simp [low] at hb
  omega
theorem Out.hot_g {k : Nat} : hot cs k g = false := hot_no fun i u _ hu e => by
  have hi : i < cs.size := (Array.getElem?_eq_some_iff.1 hu).1
  have hi2 : i < E.length := by rw [h.len, ← h.size]; exact hi
  obtain ⟨b', o, c, h1, h2, h3, h4, h5, h6, -⟩ := h.el i _ (List.getElem?_eq_getElem hi2)
  rw [hu] at h1
  cases h1
  injection e with e
  exact h6 e
/-- the next domain is there as it was, when those ahead of it have been written to -/
theorem Out.at_ {k : Nat} {wr : World} (T : Turn (hot cs k) w wr) (hk : k < E.length) : ∃ b o c, wr.cell? ⟨g, k, none⟩ = some (.slice (some ⟨b, o, none⟩) E[k].length c) ∧ cs[k]? = some (.slice (some ⟨b, o, none⟩) E[k].length c) ∧ Sl 2 QR wr (.slice (some ⟨b, o, none⟩) E[k].length c) E[k] ∧ 0 < E[k].length ∧ b ≠ g ∧ ∀ j, wr.frozen? ⟨b, j, none⟩ = false := by
  obtain ⟨b, o, c, h1, h2, h3, h4, h5, h6, h7⟩ := h.el k _ (List.getElem?_eq_getElem hk)
  have hkc : k < cs.size := by rw [h.size, ← h.len]; exact hk
  have hb : hot cs k b = false := hot_no fun i u hi hu e => h.apart k i _ u h1 hu (by omega) b rfl e
  refine ⟨b, o, c, ?_, h1, ?_, h3, h6, fun j => ?_⟩
  · rw [(Turn.bx T h.row h.hot_g).cell k]; exact h1
  · have s1 : Sl 2 QR (veil (hot cs k) w) (.slice (some ⟨b, o, none⟩) E[k].length c) E[k] := Sl.veil (Q := QR) (Q' := QR) (fun _ _ h => h) h2 fun b' e _ => by injection e with e; subst e; exact hb
    exact sl_unveil (s1.since stR (T.veil fun _ _ => rfl))
  · exact (World.frozen?_of_block (w := w) (a := ⟨b, j, none⟩) (T.block b h5 hb)).trans (h7 j)
end
theorem qd_low {B : Nat} {w : World} (hB : w.heap.size ≤ B) {v : Value} {ds : Ds} (h : Sl 1 QD w v ds) : Sl 1 QD (veil (low B) w) v ds :=
  Sl.veil (Q := QD) (Q' := QD) (fun _ _ ⟨v, h1, h2⟩ => ⟨v, h1, Sl.veil (Q := QR) (Q' := QR) (fun _ _ h => h) h2 fun b _ hb => low_no (by omega)⟩) h fun b _ hb => low_no (by omega)
theorem qi_low {B : Nat} {w : World} (hB : w.heap.size ≤ B) {v : Value} {l : List Int} (h : Sl 1 QI w v l) : Sl 1 QI (veil (low B) w) v l :=
  Sl.veil (Q := QI) (Q' := QI) (fun _ _ h => h) h fun b _ hb => low_no (by omega)
theorem qi_unveil {G : Nat → Bool} {w : World} {v : Value} {l : List Int} (h : Sl 1 QI (veil G w) v l) : Sl 1 QI w v l := Sl.unveil (Q := QI) (Q' := QI) (fun _ _ h => h) h
theorem since_turn {G : Nat → Bool} {w w7 W : World} (h : Since w w7) (t : Turn G w7 W) (hG : ∀ b, b < w.heap.size → G b = false) : Since w W :=
  ⟨t.os.trans h.os, t.tape.trans h.tape, t.output.trans h.output, Nat.le_trans h.size t.size, fun i hi => (t.block i (Nat.lt_of_lt_of_le hi h.size) (hG i hi)).trans (h.block i hi)⟩
theorem sl_lt3 {w : World} {v : Value} {d : List Rn} (h : Sl 2 QR w v d) (hd : d ≠ []) {b : Nat} (hb : v.ownBlock = some b) : b < w.heap.size := by
  obtain ⟨A, c, rfl⟩ := h.form
  obtain ⟨g, o, rfl, e0, -⟩ := elR h (i := 0) (List.length_pos_iff.2 hd)
  injection hb with hb
  subst hb
  exact World.block_lt_of_cell? _ _ e0
theorem mem_next {l : List Int} {j : Nat} (h : j < l.length) (x : Int) : x ∈ l.take (j + 1) ↔ x ∈ l.take j ∨ x = l[j] := by
  rw [List.take_succ_eq_append_getElem h, List.mem_append, List.mem_singleton]
theorem setCell_some {w : World} {p q : Addr} {x : Value} (h : (w.cell? q).isSome = true) : ((w.setCell p x).cell? q).isSome = true := by
  by_cases e : p = q
  · subst e
    obtain ⟨u, hu⟩ := Option.isSome_iff_exists.1 h
    rw [World.cell?_setCell_same _ _ _ hu]; rfl
  · rw [World.cell?_setCell_other _ _ _ _ (by first | exact e | exact fun h => e h.symm)]; exact h
theorem setCell_frozen {w : World} {p q : Addr} {x : Value} : (w.setCell p x).frozen? q = w.frozen? q := World.frozen?_setCell ..
end Go.Proofs.Ytilgmkhcpmegjaa.Ln
end
section
namespace Go.Proofs.Ytilgmkhcpmegjaa.Tk
open Go.RowKit Go.ChangeShapes Go.WideShapes Go.Deep
section
variable {H : Type} {enc : TypeId × Value → H} {P : Program} {w : World} {base : Nat} {spare : Nat → Bool} {held : Bool}
theorem list_of {α : Type} (d : α) {p : Nat → α → Prop} : ∀ n, (∀ i, i < n → ∃ x, p i x) → ∃ l : List α, l.length = n ∧ ∀ i, i < n → p i (l.getD i d)
  | 0, _ => ⟨[], rfl, fun i h => by omega⟩
  | n + 1, h => by
    obtain ⟨l, hl, hp⟩ := list_of d n (fun i hi => h i (by omega))
    obtain ⟨x, hx⟩ := h n (by omega)
    refine ⟨l ++ [x], by simp [hl], fun i hi => ?_⟩
    by_cases hin : i < n
    · have e : (l ++ [x]).getD i d = l.getD i d := by simp [List.getD, List.getElem?_append_left (show i < l.length by omega)]
      rw [e]; exact hp i hin
    · obtain rfl : i = n := by omega
      have e : (l ++ [x]).getD i d = x := by simp [List.getD, ← hl]
      rw [e]; exact hx
end
end Go.Proofs.Ytilgmkhcpmegjaa.Tk
end
