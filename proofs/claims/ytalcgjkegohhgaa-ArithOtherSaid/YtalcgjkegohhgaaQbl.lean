/- Layer 11 (sense): the document's own Holds, of a product, a lesser or greater one, a size, a likeness. Layer 1 -/
import Derived.Test.YtalcgjkegohhgaaKy
import Derived.Test.YtalcgjkegohhgaaQas
set_option linter.unusedVariables false
set_option linter.unusedSimpArgs false
section
namespace Go.Proofs.Ytalcgjkegohhgaa.Sn
open Go.RowKit
open Go.Proofs.Ytalcgjkegohhgaa.Dig Go.Proofs.Ytalcgjkegohhgaa.Lx Go.Proofs.Ytalcgjkegohhgaa.Tk Go.Proofs.Ytalcgjkegohhgaa.Ti Go.Proofs.Ytalcgjkegohhgaa.Zs Go.Proofs.Ytalcgjkegohhgaa.Tr
set_option maxRecDepth 20000 in
set_option maxHeartbeats 2000000 in
theorem rholdsA_any (v va : Value) (c : Cn) (a : List Int) (w : World) (h : ConAt w v c) (ha : Sl 1 QI w va a) (hx : c.x.length ≤ 1100000) (hca : c.a.length ≤ 1100000) (hla : a.length ≤ 1100000) (hk6 : c.k = 7 ∨ c.k = 8 ∨ c.k = 9 ∨ c.k = 10 ∨ c.k = 15) :
    Calls Try.prog 39 #[v, va] w (RetT (holds c a) w) := by
  cases hk : asked c a with
  | false =>
    have e : holds c a = false := by rw [holds, hk]; rfl
    rw [e]
    have AK := Lib.hid (fun W (k : Since w W) => by have := rasked_any v va c a W (h.since k) (ha.since stI k) hx hca hla; rw [hk] at this; exact this)
    obtain ⟨vx, vy, rfl, h1, h2⟩ := h
    obtain ⟨X, xc, rfl⟩ := h1.form
    obtain ⟨Y, yc, rfl⟩ := h2.form
    obtain ⟨A, ac, rfl⟩ := ha.form
    generalize c.x.length = nx at *
    generalize c.a.length = na at *
    generalize a.length = nl at *
    have ka := Lib.hid (since_alloc w (.cells #[.int .i64 c.k, .slice X nx xc, .slice Y na yc, .int .i64 c.c] 58))
    clear h1 h2 ha hk e hk6
    go_enter Try.func39, Try.ntmps39
    go_wp2_with (go_at_call 74; (with_reducible refine (AK.out _ ka.out).mono ?_); rintro e w2 ⟨rfl, k2⟩)
    go_ret
    exact ⟨rfl, ka.out.trans k2⟩
  | true =>
    have e : holds c a = holdV c.k (vals c.x a) c.a c.c := by rw [holds, hk]; rfl
    rw [e]
    obtain ⟨ck, cx, ca, cc⟩ := c
    simp only at *
    rcases hk6 with rfl | rfl | rfl | rfl | rfl
    · exact rholds7 v va cx ca cc a w h ha hx hca hla hk
    · exact rholds8 v va cx ca cc a w h ha hx hca hla hk
    · exact rholds9 v va cx ca cc a w h ha hx hca hla hk
    · exact rholds10 v va cx ca cc a w h ha hx hca hla hk
    · exact rholds15 v va cx ca cc a w h ha hx hca hla hk
end Go.Proofs.Ytalcgjkegohhgaa.Sn
end
section
namespace Go.Proofs.Ytalcgjkegohhgaa.Ev
open Go.Proofs.Ytalcgjkegohhgaa.Zs Go.Proofs.Ytalcgjkegohhgaa.Sn Go.Proofs.Ytalcgjkegohhgaa.Ln
theorem valsF_len {b : Int} {d : List Rn} (h : okF b d = true) : ∀ (n : Nat) (x : Int), cntF d (x + 1) ≤ n → ((valsF n d x).length : Int) = 1 + cntF d (x + 1)
  | 0, x, hc => by
    have := cntF_nonneg d (x + 1)
    simp only [valsF, List.length_singleton]
    omega
  | n + 1, x, hc => by
    rw [valsF]
    cases hn : nextF d (x + 1) with
    | none => have := next_none h hn; simp only [List.length_cons, List.length_nil]; omega
    | some y =>
      have h1 := (next_some h hn).2.2.2.2
      have := valsF_len h n y (by omega)
      simp only [List.length_cons]
      omega
theorem vals_len {d : List Rn} (h : right d = true) (hd : d ≠ []) : ((vals d).length : Int) = size d := by
  unfold vals
  cases d with
  | nil => exact absurd rfl hd
  | cons r l =>
    have h' := h
    rw [right, okF_cons] at h'
    have e2 := cntF_all h (Int.le_refl _)
    have e3 := cntF_all (v := r.1 + 1) h'.2.2.2 (by omega)
    have e4 := cntF_nonneg l (r.1 + 1)
    have e5 : cntF (r :: l) (r.1 + 1) + 1 = sizeF (r :: l) := by simp only [cntF, e3, sizeF]; omega
    have e6 := cntF_nonneg (r :: l) (-mx)
    rw [valsF_len h _ _ (by simp only [List.headD_cons]; omega), size, if_pos h]
    simp only [List.headD_cons]
    omega
def prodF : Ds → Int
  | [] => 1
  | d :: ds => size d * prodF ds
theorem prod_snoc : ∀ (l : Ds) (d : List Rn), prodF (l ++ [d]) = prodF l * size d
  | [], d => by simp [prodF]
  | e :: l, d => by simp only [List.cons_append, prodF, prod_snoc l d]; rw [Int.mul_assoc]
theorem all_len : ∀ {ds : Ds}, Gd ds → ((allB vals ds).length : Int) = prodF ds
  | [], _ => rfl
  | d :: ds, h => by
    have h1 := all_len (ds := ds) fun e he => h e (List.mem_cons_of_mem _ he)
    have h2 := vals_len (h d (by simp)).1 (h d (by simp)).2
    have h3 : ∀ (V : List Int), (V.flatMap fun x => (allB vals ds).map (x :: ·)).length = V.length * (allB vals ds).length := by
      intro V
      induction V with
      | nil => simp
      | cons x V ih => rw [List.flatMap_cons, List.length_append, ih, List.length_map, List.length_cons, Nat.add_mul, Nat.one_mul, Nat.add_comm]
    rw [allB, h3, prodF, ← h1, ← h2]
    simp
theorem all_wi {ds : Ds} (h : Gd ds) {a : List Int} (ha : a ∈ allB vals ds) : Wi ds a := by
  obtain ⟨h1, h2⟩ := (mem_allB vals).1 ha
  refine ⟨h1, fun y hy hl => ?_⟩
  have h3 := h2 y.toNat hl
  have h4 := h _ (List.getElem_mem hl)
  rw [domAt_lt hl]
  exact (mem_vals h4.1 h4.2 _).1 h3
/-- the least values -/
def lows (ds : Ds) : List Int := ds.map fun d => (d.headD (0, 0)).1
/-- the values behind others -/
def nextB (ds : Ds) (a : List Int) : Option (List Int) := afterB next (fun d => (d.headD (0, 0)).1) ds a
theorem all_run {ds : Ds} (h : Gd ds) : Run (nextB ds) (lows ds) (allB vals ds) := run_all next _ vals fun d hd => vals_run (h d hd).1 (h d hd).2
theorem size_pos {d : List Rn} (h : right d = true) (hd : d ≠ []) : 1 ≤ size d ∧ size d ≤ 2097154 := by
  rw [size, if_pos h]
  have := sizeF_le h (by simp only [mx]; omega)
  have h2 := this.2.2 hd
  have h3 := this.2.1
  simp only [mx] at h3
  omega
end Go.Proofs.Ytalcgjkegohhgaa.Ev
end
