/- Layer 10 (trail): what the acts do to the levels; words for the laws. No walk. -/
import Derived.Test.YtnojfeffmbdpmaaVp
import Derived.Test.YtnojfeffmbdpmaaVs
namespace Go.Proofs.Ytnojfeffmbdpmaa.Tr
open Go.RowKit
set_option linter.unusedVariables false
set_option linter.unusedSimpArgs false
open Go.Proofs.Ytnojfeffmbdpmaa.Dig Go.Proofs.Ytnojfeffmbdpmaa.Lx Go.Proofs.Ytnojfeffmbdpmaa.Tk Go.Proofs.Ytnojfeffmbdpmaa.Ti Go.Proofs.Ytnojfeffmbdpmaa.Zs

theorem narrow_eta (s : Sto) (x : Int) (d : List Rn) : narrowD s x d = ((narrowD s x d).1, (narrowD s x d).2.1, (narrowD s x d).2.2) := rfl
theorem changed_eta (s : Sto) : changedD s = (⟨s.D, s.W, List.replicate s.D.length false⟩, told 0 s.F) := rfl
theorem push_eta (s : Sto) : pushD s = ((pushD s).1, (pushD s).2) := rfl
theorem pop_eta (s : Sto) : popD s = ((popD s).1, (popD s).2) := rfl
theorem narrowD_W (s : Sto) (x : Int) (d : List Rn) : (narrowD s x d).1.W = s.W := by
  unfold narrowD; split
  · rfl
  · split
    · rfl
    · split <;> rfl
theorem narrowD_len (s : Sto) (x : Int) (d : List Rn) : (narrowD s x d).1.D.length = s.D.length := by
  unfold narrowD; split
  · rfl
  · split
    · rfl
    · split
      · rfl
      · simp
theorem pushD_W (s : Sto) : (pushD s).1.W = s.W ++ [s.D] ∨ (pushD s).1.W = s.W := by
  unfold pushD; split
  · exact .inr rfl
  · exact .inl rfl
theorem pushD_len (s : Sto) : (pushD s).1.W.length ≤ s.W.length + 1 := by
  rcases pushD_W s with h | h <;> rw [h] <;> simp
theorem popD_last {s : Sto} {ws : List Ds} {d : Ds} (h : s.W = ws ++ [d]) : popD s = (⟨d, ws, List.replicate d.length false⟩, 0) := by
  unfold popD; rw [h]; simp
/-- the levels ahead of a moment, the moment, and what came behind -/
def Behind (W0 : List Ds) (D0 : Ds) (s : Sto) : Prop := ∃ R, s.W = W0 ++ D0 :: R
theorem Behind.narrow {W0 : List Ds} {D0 : Ds} {s : Sto} (h : Behind W0 D0 s) (x : Int) (d : List Rn) : Behind W0 D0 (narrowD s x d).1 := by
  obtain ⟨R, h⟩ := h; exact ⟨R, by rw [narrowD_W]; exact h⟩
theorem Behind.push {W0 : List Ds} {D0 : Ds} {s : Sto} (h : Behind W0 D0 s) : Behind W0 D0 (pushD s).1 := by
  obtain ⟨R, h⟩ := h
  rcases pushD_W s with e | e
  · exact ⟨R ++ [s.D], by rw [e, h]; simp⟩
  · exact ⟨R, by rw [e]; exact h⟩
theorem Behind.pop {W0 : List Ds} {D0 : Ds} {s : Sto} (h : Behind W0 D0 s) (hl : W0.length + 1 < s.W.length) : Behind W0 D0 (popD s).1 := by
  obtain ⟨R, h⟩ := h
  rcases List.eq_nil_or_concat R with rfl | ⟨R', d, rfl⟩
  · rw [h] at hl; simp at hl
  · rw [popD_last (ws := W0 ++ D0 :: R') (d := d) (by rw [h]; simp)]
    exact ⟨R', rfl⟩
/-- .. or all has been taken back -/
def Back' (W0 : List Ds) (D0 : Ds) (s : Sto) : Prop := Behind W0 D0 s ∨ (s.W = W0 ∧ s.D = D0 ∧ ∃ n, s.F = List.replicate n false)
theorem Back'.pop {W0 : List Ds} {D0 : Ds} {s : Sto} (h : Back' W0 D0 s) (hl : W0.length < s.W.length) : Back' W0 D0 (popD s).1 ∧ (popD s).2 = 0 ∧ (popD s).1.W.length + 1 = s.W.length := by
  rcases h with ⟨R, h⟩ | ⟨h, -, -⟩
  · rcases List.eq_nil_or_concat R with rfl | ⟨R', d, rfl⟩
    · rw [popD_last (ws := W0) (d := D0) h]
      exact ⟨.inr ⟨rfl, rfl, _, rfl⟩, rfl, by rw [h]; simp⟩
    · rw [popD_last (ws := W0 ++ D0 :: R') (d := d) (by rw [h]; simp)]
      exact ⟨.inl ⟨R', rfl⟩, rfl, by rw [h]; simp; omega⟩
  · rw [h] at hl; omega
theorem Back'.done {W0 : List Ds} {D0 : Ds} {s : Sto} (h : Back' W0 D0 s) (hl : ¬ W0.length < s.W.length) : s.W = W0 ∧ s.D = D0 ∧ told 0 s.F = [] := by
  rcases h with ⟨R, h⟩ | ⟨h1, h2, n, h3⟩
  · rw [h] at hl; simp at hl
  · exact ⟨h1, h2, by rw [h3]; exact told_none 0 n⟩
theorem fitsD_bd {ds : Ds} (h : fitsD ds = true) (hb : ∀ d ∈ ds, Bd d ∧ d.length ≤ maxLen) : BdD ds ∧ ds.length ≤ 100000 := by
  rw [fitsD, Bool.and_eq_true, decide_eq_true_eq, List.all_eq_true] at h
  refine ⟨fun d hd => ⟨(hb d hd).1, ?_⟩, by omega⟩
  have := h.2 d hd
  rw [decide_eq_true_eq] at this
  omega
/-- the three cells of an act -/
theorem elA {w : World} {A : Option Addr} {n c : Nat} {xs : List Ac} (h : Sl 3 QA w (.slice A n c) xs) {i : Nat} (hi : i < xs.length) :
    ∃ b o B m d, A = some ⟨b, o, none⟩ ∧ m = xs[i].d.length ∧ Sl 2 QR w (.slice B m d) xs[i].d ∧ w.cell? ⟨b, o + i * 3, none⟩ = some (.int .u8 xs[i].k) ∧ w.cell? ⟨b, o + i * 3 + 1, none⟩ = some (.int .i64 xs[i].x) ∧ w.cell? ⟨b, o + i * 3 + 2, none⟩ = some (.slice B m d) := by
  obtain ⟨b, o, u, h1, ⟨v, h2, h3⟩, h4, h5⟩ := h.el hi
  obtain ⟨B, d, rfl⟩ := h3.form
  subst h2
  exact ⟨b, o, B, _, d, h1, rfl, h3, by have := h5 0 _ rfl; simpa using this, h5 1 _ rfl, h5 2 _ rfl⟩
/-- what a narrowing does where nothing was marked -/
theorem narrow_cases {s : Sto} (h : Ok s) (hF : s.F = List.replicate s.D.length false) (x : Int) (d : List Rn) :
    (∃ z, narrowD s x d = (s, false, z)) ∨ ∃ (k : Nat) (y : List Rn), x = (k : Int) ∧ k < s.D.length ∧ s.D[k]? = some y ∧ right y = true ∧ right d = true ∧ same (meet y d) y = false ∧ narrowD s x d = (⟨s.D.set k (meet y d), s.W, s.F.set k true⟩, true, 0) := by
  by_cases hx : inD s.D.length x = true
  · by_cases hr : right d = true
    · rw [inD, Bool.and_eq_true, decide_eq_true_eq, decide_eq_true_eq] at hx
      obtain ⟨k, rfl⟩ : ∃ k : Nat, x = (k : Int) := ⟨x.toNat, by omega⟩
      have hk : k < s.D.length := by omega
      have hy := List.getElem?_eq_getElem hk
      have hyr := h.D _ (List.getElem_mem hk)
      rw [narrowD_yes hk hy hr]
      by_cases h1 : (meet s.D[k] d).isEmpty = true
      · rw [if_pos h1]; exact .inl ⟨_, rfl⟩
      · rw [if_neg h1]
        by_cases h2 : same (meet s.D[k] d) s.D[k] = true
        · rw [if_pos h2]; exact .inl ⟨_, rfl⟩
        · rw [if_neg h2]
          exact .inr ⟨k, _, rfl, hk, hy, hyr.1, hr, by cases h3 : same (meet s.D[k] d) s.D[k] with | false => rfl | true => exact absurd h3 h2, rfl⟩
    · rw [narrowD_no (.inr (by cases h3 : right d with | false => rfl | true => exact absurd h3 hr))]
      exact .inl ⟨_, rfl⟩
  · rw [narrowD_no (.inl (by cases h3 : inD s.D.length x with | false => rfl | true => exact absurd h3 hx))]
    exact .inl ⟨_, rfl⟩
theorem told_one {n k : Nat} (h : k < n) : told 0 ((List.replicate n false).set k true) = [(k : Int)] := by
  refine sorted_ext (told_sorted _ _) (by simp) fun x => ?_
  rw [mem_told]
  constructor
  · rintro ⟨j, h1, h2⟩
    rw [List.getElem?_set] at h1
    split at h1
    · rename_i e; subst e; simp [h2]
    · rw [List.getElem?_replicate] at h1
      split at h1 <;> simp at h1
  · intro hx
    simp at hx
    exact ⟨k, by simp [h], by simpa using hx⟩
theorem meet_self' {a : List Rn} (h : right a = true) : meet a a = a :=
  uniq (meet_right a a) h fun v => by rw [(meet_ok h h).2 v]; simp
theorem meet_back {a d : List Rn} (ha : right a = true) (hd : right d = true) : meet (meet a d) a = meet a d :=
  uniq (meet_right _ a) (meet_right a d) fun v => by rw [(meet_ok (meet_right a d) ha).2 v, (meet_ok ha hd).2 v]; exact ⟨fun h => h.1, fun h => ⟨h, h.1⟩⟩
theorem same_self {a : List Rn} (h : right a = true) : same a a = true := by
  simp [same, h]
theorem same_ne {a c : List Rn} (ha : right a = true) (h : same a c = false) : a ≠ c := by
  rintro rfl
  rw [same_self ha] at h; cases h
/-- each domain behind a narrowing -/
theorem narrow_each {s s2 : Sto} (h : Ok s) (hF : s.F = List.replicate s.D.length false) {x : Int} {d : List Rn} {ok : Bool} {z : Int} (e : narrowD s x d = (s2, ok, z)) {j : Nat} {y y2 : List Rn} (hy : s.D[j]? = some y) (hy2 : s2.D[j]? = some y2) (h2 : Ok s2) :
    right y2 = true ∧ y2 ≠ [] ∧ right y = true ∧ same (meet y2 y) y2 = true ∧ ((j : Int) ≠ x → y = y2) := by
  have m1 := h.D y (List.mem_of_getElem? hy)
  have m2 := h2.D y2 (List.mem_of_getElem? hy2)
  refine ⟨m2.1, m2.2.1, m1.1, ?_⟩
  rcases narrow_cases h hF x d with ⟨z', e'⟩ | ⟨k, a, rfl, hk, ha, har, hdr, hs, e'⟩
  · rw [e] at e'
    injection e' with e1 _
    subst e1
    rw [hy] at hy2
    injection hy2 with hy2
    subst hy2
    exact ⟨by rw [meet_self' m1.1]; exact same_self m1.1, fun _ => rfl⟩
  · rw [e] at e'
    injection e' with e1 _
    subst e1
    by_cases hjk : k = j
    · subst hjk
      rw [ha] at hy
      injection hy with hy
      subst hy
      rw [List.getElem?_set] at hy2
      simp [hk] at hy2
      subst hy2
      exact ⟨by rw [meet_back har hdr]; exact same_self (meet_right a d), fun h => absurd rfl h⟩
    · simp only at hy2
      rw [List.getElem?_set_ne hjk, hy] at hy2
      injection hy2 with hy2
      subst hy2
      exact ⟨by rw [meet_self' m1.1]; exact same_self m1.1, fun _ => rfl⟩
/-- how many levels there are, read off the memory -/
def lvOf (b : Nat) (w : World) : Nat := match w.cell? ⟨b, 1, none⟩ with | some (.slice _ n _) => n | _ => 0
theorem TrailAt.lv {G : Nat → Bool} {N : Nat} {w : World} {b : Nat} {s : Sto} (h : TrailAt G N w b s) : lvOf b w = s.W.length := by
  obtain ⟨vD, vL, mc, ms, cs, h⟩ := h
  obtain ⟨AL, cL, rfl⟩ := owns_slice h.rowL
  have hlen := h.lvs.len
  simp only [List.length_reverse] at hlen
  obtain ⟨-, c1, -⟩ := bx3 h.bx
  unfold lvOf
  rw [c1, hlen]
end Go.Proofs.Ytnojfeffmbdpmaa.Tr
