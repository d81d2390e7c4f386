/- Layer 10 (trail): what the acts do to the levels; words for the laws. No walk. -/
import Derived.Test.YtnojfeffmbdpmaaVp
import Derived.Test.YtnojfeffmbdpmaaVs
namespace Go.Proofs.Ytnojfeffmbdpmaa.Tr
open Go.RowKit
set_option linter.unusedVariables false
set_option linter.unusedSimpArgs false
open Go.Proofs.Ytnojfeffmbdpmaa.Dig Go.Proofs.Ytnojfeffmbdpmaa.Lx Go.Proofs.Ytnojfeffmbdpmaa.Tk Go.Proofs.Ytnojfeffmbdpmaa.Ti Go.Proofs.Ytnojfeffmbdpmaa.Zs

theorem narrow_eta (s : Sto) (x : Int) (d : List Rn) : narrowD s x d = ((narrowD s x d).1, (narrowD s x d).2.1, (narrowD s x d).2.2) := rfl
theorem changed_eta (s : Sto) : changedD s = (⟨s.D, s.W, List.replicate s.D.length false⟩, told 0 s.F) := rfl
theorem push_eta (s : Sto) : pushD s = ((pushD s).1, (pushD s).2) := rfl
theorem pop_eta (s : Sto) : popD s = ((popD s).1, (popD s).2) := rfl
theorem narrowD_W (s : Sto) (x : Int) (d : List Rn) : (narrowD s x d).1.W = s.W := by
  unfold narrowD; split
  · rfl
  · split
    · rfl
    · split <;> rfl
theorem pushD_W (s : Sto) : (pushD s).1.W = s.W ++ [s.D] ∨ (pushD s).1.W = s.W := by
  unfold pushD; split
  · exact .inr rfl
  · exact .inl rfl
theorem pushD_len (s : Sto) : (pushD s).1.W.length ≤ s.W.length + 1 := by
  rcases pushD_W s with h | h <;> rw [h] <;> simp
theorem popD_last {s : Sto} {ws : List Ds} {d : Ds} (h : s.W = ws ++ [d]) : popD s = (⟨d, ws, List.replicate d.length false⟩, 0) := by
  unfold popD; rw [h]; simp
/-- the levels ahead of a moment, the moment, and what came behind -/
def Behind (W0 : List Ds) (D0 : Ds) (s : Sto) : Prop := ∃ R, s.W = W0 ++ D0 :: R
theorem Behind.narrow {W0 : List Ds} {D0 : Ds} {s : Sto} (h : Behind W0 D0 s) (x : Int) (d : List Rn) : Behind W0 D0 (narrowD s x d).1 := by
  obtain ⟨R, h⟩ := h; exact ⟨R, by rw [narrowD_W]; exact h⟩
theorem Behind.push {W0 : List Ds} {D0 : Ds} {s : Sto} (h : Behind W0 D0 s) : Behind W0 D0 (pushD s).1 := by
  obtain ⟨R, h⟩ := h
  rcases pushD_W s with e | e
  · exact ⟨R ++ [s.D], by rw [e, h]; simp⟩
  · exact ⟨R, by rw [e]; exact h⟩
theorem Behind.pop {W0 : List Ds} {D0 : Ds} {s : Sto} (h : Behind W0 D0 s) (hl : W0.length + 1 < s.W.length) : Behind W0 D0 (popD s).1 := by
  obtain ⟨R, h⟩ := h
  rcases List.eq_nil_or_concat R with rfl | ⟨R', d, rfl⟩
  · rw [h] at hl; simp at hl
  · rw [popD_last (ws := W0 ++ D0 :: R') (d := d) (by rw [h]; simp)]
    exact ⟨R', rfl⟩
/-- .. or all has been taken back -/
def Back' (W0 : List Ds) (D0 : Ds) (s : Sto) : Prop := Behind W0 D0 s ∨ (s.W = W0 ∧ s.D = D0 ∧ ∃ n, s.F = List.replicate n false)
theorem Back'.pop {W0 : List Ds} {D0 : Ds} {s : Sto} (h : Back' W0 D0 s) (hl : W0.length < s.W.length) : Back' W0 D0 (popD s).1 ∧ (popD s).2 = 0 ∧ (popD s).1.W.length + 1 = s.W.length := by
  rcases h with ⟨R, h⟩ | ⟨h, -, -⟩
  · rcases List.eq_nil_or_concat R with rfl | ⟨R', d, rfl⟩
    · rw [popD_last (ws := W0) (d := D0) h]
      exact ⟨.inr ⟨rfl, rfl, _, rfl⟩, rfl, by rw [h]; simp⟩
    · rw [popD_last (ws := W0 ++ D0 :: R') (d := d) (by rw [h]; simp)]
      exact ⟨.inl ⟨R', rfl⟩, rfl, by rw [h]; simp; omega⟩
  · rw [h] at hl; omega
theorem Back'.done {W0 : List Ds} {D0 : Ds} {s : Sto} (h : Back' W0 D0 s) (hl : ¬ W0.length < s.W.length) : s.W = W0 ∧ s.D = D0 ∧ told 0 s.F = [] := by
  rcases h with ⟨R, h⟩ | ⟨h1, h2, n, h3⟩
  · rw [h] at hl; simp at hl
  · exact ⟨h1, h2, by rw [h3]; exact told_none 0 n⟩
theorem fitsD_bd {ds : Ds} (h : fitsD ds = true) (hb : ∀ d ∈ ds, Bd d ∧ d.length ≤ maxLen) : BdD ds ∧ ds.length ≤ 100000 := by
  rw [fitsD, Bool.and_eq_true, decide_eq_true_eq, List.all_eq_true] at h
  refine ⟨fun d hd => ⟨(hb d hd).1, ?_⟩, by omega⟩
  have := h.2 d hd
  rw [decide_eq_true_eq] at this
  omega
/-- the three cells of an act -/
theorem elA {w : World} {A : Option Addr} {n c : Nat} {xs : List Ac} (h : Sl 3 QA w (.slice A n c) xs) {i : Nat} (hi : i < xs.length) :
    ∃ b o B m d, A = some ⟨b, o, none⟩ ∧ m = xs[i].d.length ∧ Sl 2 QR w (.slice B m d) xs[i].d ∧ w.cell? ⟨b, o + i * 3, none⟩ = some (.int .u8 xs[i].k) ∧ w.cell? ⟨b, o + i * 3 + 1, none⟩ = some (.int .i64 xs[i].x) ∧ w.cell? ⟨b, o + i * 3 + 2, none⟩ = some (.slice B m d) := by
  obtain ⟨b, o, u, h1, ⟨v, h2, h3⟩, h4, h5⟩ := h.el hi
  obtain ⟨B, d, rfl⟩ := h3.form
  subst h2
  exact ⟨b, o, B, _, d, h1, rfl, h3, by have := h5 0 _ rfl; simpa using this, h5 1 _ rfl, h5 2 _ rfl⟩
/-- how many levels there are, read off the memory -/
def lvOf (b : Nat) (w : World) : Nat := match w.cell? ⟨b, 1, none⟩ with | some (.slice _ n _) => n | _ => 0
theorem TrailAt.lv {G : Nat → Bool} {N : Nat} {w : World} {b : Nat} {s : Sto} (h : TrailAt G N w b s) : lvOf b w = s.W.length := by
  obtain ⟨vD, vL, mc, ms, cs, h⟩ := h
  obtain ⟨AL, cL, rfl⟩ := owns_slice h.rowL
  have hlen := h.lvs.len
  simp only [List.length_reverse] at hlen
  obtain ⟨-, c1, -⟩ := bx3 h.bx
  unfold lvOf
  rw [c1, hlen]
end Go.Proofs.Ytnojfeffmbdpmaa.Tr
