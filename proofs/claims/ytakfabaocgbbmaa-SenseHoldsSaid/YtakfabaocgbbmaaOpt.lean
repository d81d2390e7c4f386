/- A slice of tokens that came in reads as a list of tokens. -/
import Derived.Test.YtakfabaocgbbmaaTk
import Derived.Deep.Slices
import Derived.Deep.Fields
import Derived.ChangeSame
import Derived.OpenShut
namespace Go.Proofs.Ytakfabaocgbbmaa.Tk
open Go.RowKit Go.ChangeShapes Go.WideShapes Go.Deep
set_option linter.unusedVariables false
section
variable {H : Type} {enc : TypeId × Value → H} {P : Program} {w : World} {base : Nat} {spare : Nat → Bool} {held : Bool}
theorem list_of {α : Type} (d : α) {p : Nat → α → Prop} : ∀ n, (∀ i, i < n → ∃ x, p i x) → ∃ l : List α, l.length = n ∧ ∀ i, i < n → p i (l.getD i d)
  | 0, _ => ⟨[], rfl, fun i h => by omega⟩
  | n + 1, h => by
    obtain ⟨l, hl, hp⟩ := list_of d n (fun i hi => h i (by omega))
    obtain ⟨x, hx⟩ := h n (by omega)
    refine ⟨l ++ [x], by simp [hl], fun i hi => ?_⟩
    by_cases hin : i < n
    · have e : (l ++ [x]).getD i d = l.getD i d := by simp [List.getD, List.getElem?_append_left (show i < l.length by omega)]
      rw [e]; exact hp i hin
    · obtain rfl : i = n := by omega
      have e : (l ++ [x]).getD i d = x := by simp [List.getD, ← hl]
      rw [e]; exact hx
/-- the slice came in and reads as tokens -/
def ToksIn (w : World) (a : Option Addr) (len cap : Nat) (ts : List Tv) : Prop := Toks w (.slice a len cap) ts ∧ ∀ t ∈ ts, t.s.size ≤ maxLen
theorem getD_all {ts : List Tv} {p : Tv → Prop} (h : ∀ i, i < ts.length → p (ts.getD i .nil)) : ∀ t ∈ ts, p t := by
  intro t ht
  obtain ⟨i, hi, rfl⟩ := List.mem_iff_getElem.1 ht
  have := h i hi
  have e : ts.getD i .nil = ts[i] := by simp [List.getD, hi]
  rwa [e] at this
theorem toks_in {t e : TypeId} {f0 f1 f2 f3 : Field} {fuel : Nat} {a : Option Addr} {len cap : Nat} {x : DataW H × List MemPlace} (ht : P.underlying t = some (.slice e)) (he : P.underlying e = some (.struct #[f0, f1, f2, f3])) (hC : P.cellsOf e = 4)
    (o0 : f0.offset = 0) (o1 : f1.offset = 1) (o2 : f2.offset = 2) (o3 : f3.offset = 3) (c0 : P.cellsOf f0.type = 1) (c1 : P.cellsOf f1.type = 1) (c2 : P.cellsOf f2.type = 1) (c3 : P.cellsOf f3.type = 1)
    (t0 : P.underlying f0.type = some (.int .i64)) (t1 : P.underlying f1.type = some .string) (t2 : P.underlying f2.type = some (.int .i64)) (t3 : P.underlying f3.type = some (.int .i64))
    (h : DataW.trod enc P w base spare held fuel t [.slice a len cap] = some x) : ∃ ts, ToksIn w a len cap ts := by
  rcases open_slice ht h with ⟨h0, _⟩ | ⟨ad, l, c, m, n, D, Pl, hcs, hb, hl, hm, hmm, hx, hi⟩
  · injection h0 with h0
    injection h0 with h1 h2 h3
    subst h1 h2 h3
    exact ⟨[], Toks.nil w, by simp⟩
  · injection hcs with hcs
    injection hcs with h1 h2 h3
    subst h1 h2 h3
    have hlm : len ≤ m := by rw [hmm]; split <;> omega
    have el : ∀ i, i < len → ∃ tv : Tv, (w.cell? (ad.add (i * 4)) = some (.int .i64 tv.k) ∧ w.cell? (ad.add (i * 4 + 1)) = some (.string tv.s) ∧ w.cell? (ad.add (i * 4 + 2)) = some (.int .i64 tv.v) ∧ w.cell? (ad.add (i * 4 + 3)) = some (.int .i64 tv.a)) ∧ tv.s.size ≤ maxLen := by
      intro i hlt
      obtain ⟨cs', hc, hd⟩ := hi i (by omega)
      rw [hC] at hc
      obtain ⟨ys, n', -, -, -, hyl, hf⟩ := DataW.trod_struct he hd
      obtain ⟨_, hcl, hat⟩ := World.cells?_some hc
      match cs', hcl with
      | [v0, v1, v2, v3], _ =>
        have g0 := hf 0 f0 rfl
        have g1 := hf 1 f1 rfl
        have g2 := hf 2 f2 rfl
        have g3 := hf 3 f3 rfl
        rw [o0, c0] at g0
        rw [o1, c1] at g1
        rw [o2, c2] at g2
        rw [o3, c3] at g3
        simp only [List.drop_zero, List.drop_succ_cons, List.take_succ_cons, List.take_zero] at g0 g1 g2 g3
        have hys : ys.length = 4 := hyl
        match ys, hys with
        | [y0, y1, y2, y3], _ =>
          obtain ⟨n0, e0, -, -⟩ := DataW.trod_int t0 (show _ = some y0 from g0)
          obtain ⟨s1, e1, -, hs⟩ := DataW.trod_string t1 (show _ = some y1 from g1)
          obtain ⟨n2, e2, -, -⟩ := DataW.trod_int t2 (show _ = some y2 from g2)
          obtain ⟨n3, e3, -, -⟩ := DataW.trod_int t3 (show _ = some y3 from g3)
          injection e0 with e0; injection e1 with e1; injection e2 with e2; injection e3 with e3
          subst e0 e1 e2 e3
          refine ⟨⟨n0, s1, n2, n3⟩, ⟨?_, ?_, ?_, ?_⟩, hs⟩
          · have := hat 0 (by omega); rw [Go.Deep.add_add] at this; simpa using this
          · have := hat 1 (by omega); rw [Go.Deep.add_add] at this; simpa using this
          · have := hat 2 (by omega); rw [Go.Deep.add_add] at this; simpa using this
          · have := hat 3 (by omega); rw [Go.Deep.add_add] at this; simpa using this
    obtain ⟨ts, hts, hp⟩ := list_of Tv.nil len el
    subst hts
    refine ⟨ts, ⟨some ad, cap, rfl, hl, fun h0 => ?_⟩, getD_all fun i hi => (hp i hi).2⟩
    obtain ⟨b, o, spot⟩ := ad
    have hspot : spot = none := by
      have := World.cell?_spot (hp 0 h0).1.1
      simpa [Addr.add] using this
    subst hspot
    refine ⟨b, o, rfl, fun i hi => ?_⟩
    obtain ⟨⟨p1, p2, p3, p4⟩, -⟩ := hp i hi
    rw [add_at] at p1 p2 p3 p4
    exact ⟨p1, p2, p3, p4⟩
end
end Go.Proofs.Ytakfabaocgbbmaa.Tk
