/- What the walks of layer 5's laws lean on: the calls' ends in letters. Plain functions for the walks of LexBack, LexBoth and LexPlaces. No code is spoken of. -/
import Derived.Test.YtbkkalmdjcpgoaaDoorLxv
import Derived.Test.YtbkkalmdjcpgoaaDoorLxe
import Derived.Test.YtbkkalmdjcpgoaaDoorR5s
namespace Go.Proofs.YtbkkalmdjcpgoaaDoor.Law05
open Go.RowKit
set_option linter.unusedVariables false
set_option linter.unusedSimpArgs false
open Go.Proofs.YtbkkalmdjcpgoaaDoor.Dig Go.Proofs.YtbkkalmdjcpgoaaDoor.Lx Go.Proofs.YtbkkalmdjcpgoaaDoor.Tk
open Go.Proofs.YtbkkalmdjcpgoaaDoor.Lex (ErrIn)

theorem splitD_len (s : Bs) : (splitD s).1.length ≤ 4096 := by
  unfold splitD
  split
  · exact Nat.zero_le _
  · unfold lexA
    obtain ⟨o, p, e, hq⟩ : ∃ o p e, lexG (s.length + 1) (s.drop (blk false s)) (blk false s) [] = (o, p, e) := ⟨_, _, _, rfl⟩
    rw [hq]
    rcases lexes_of (s.length + 1) (s.drop (blk false s)) (blk false s) [] o p e (by rw [List.length_drop]; omega) hq with ⟨-, -, ts, -, -, h⟩ | ⟨h, -⟩
    · exact h (Nat.zero_le _)
    · rw [h]; exact Nat.zero_le _
/-- a call of Split, in letters -/
theorem theirs_split (s : ByteArray) (hs : s.size ≤ 100000) {o : List Tok} {p n : Nat} {er : Int} (hr : splitD (L s) = (o, p, er)) (hn : o.length = n) (w : World) (he : ErrIn w) :
    Calls Tryd.prog 9 #[.string s] w fun e w' => ∃ A c, e = .returned (.tuple #[.slice A n c, .int .i64 (p : Int), .int .i64 er]) ∧ Toks w' (.slice A n c) (o.map tv) ∧ Since w w' := by
  have h := Lex.split_any s w he hs
  rw [hr] at h
  subst hn
  exact h
theorem docs_split (s : ByteArray) (hs : s.size ≤ 100000) {o : List Tok} {p n : Nat} {er : Int} (hr : splitD (L s) = (o, p, er)) (hn : o.length = n) (w : World) :
    Calls Tryd.prog 10 #[.string s] w fun e w' => ∃ A c, e = .returned (.tuple #[.slice A n c, .int .i64 (p : Int), .int .i64 er]) ∧ Toks w' (.slice A n c) (o.map tv) ∧ Since w w' := by
  have h := Ref05.split_any s w hs
  rw [hr] at h
  subst hn
  exact h
theorem ours_at (A0 : Option Addr) (c0 n : Nat) (ts : List Tv) (w : World) (h : Toks w (.slice A0 n c0) ts) (hn : n ≤ 10000) :
    Calls Tryd.prog 12 #[.slice A0 n c0] w fun e w' => ∃ A c, e = .returned (.slice A n c) ∧ w'.ownsRow w.heap.size 34 4 (.slice A n c) n (tcells ts) ∧ Since w w' := by
  have e := h.at_.1
  subst e
  exact ours_any _ ts w h hn
theorem theirs_at (A0 : Option Addr) (c0 n : Nat) (ts : List Tv) (w : World) (h : Toks w (.slice A0 n c0) ts) (hn : n ≤ 10000) :
    Calls Tryd.prog 14 #[.slice A0 n c0] w fun e w' => ∃ A c, e = .returned (.slice A n c) ∧ Toks w' (.slice A n c) ts ∧ Since w w' := by
  have e := h.at_.1
  subst e
  refine (theirs_any _ ts w h hn).mono ?_
  rintro e w' ⟨A, c, rfl, ho, hs⟩
  exact ⟨A, c, rfl, Toks.own ho, hs⟩
end Go.Proofs.YtbkkalmdjcpgoaaDoor.Law05

namespace Go.Proofs.YtbkkalmdjcpgoaaDoor.Law05
open Go.RowKit
set_option linter.unusedVariables false
set_option linter.unusedSimpArgs false
open Go.Proofs.YtbkkalmdjcpgoaaDoor.Dig Go.Proofs.YtbkkalmdjcpgoaaDoor.Lx Go.Proofs.YtbkkalmdjcpgoaaDoor.Tk
open Go.Proofs.YtbkkalmdjcpgoaaDoor.Ref05 (noA)

/-- what Split says: tokens that are the text's, or an error -/
theorem split_cases {s : Bs} (hs : s.length ≤ 8192) {o : List Tok} {p : Nat} {er : Int} (h : splitD s = (o, p, er)) :
    (er = 0 ∧ p = 0 ∧ o.length ≤ 4096 ∧ Lexes (s.drop (blk false s)) (blk false s) o) ∨ (er ≠ 0 ∧ o = [] ∧ p < s.length ∧ (s.length ≤ 4096 → ¬ ∃ ts, Lexes (s.drop (blk false s)) (blk false s) ts)) := by
  unfold splitD at h
  rw [if_neg (by omega)] at h
  unfold lexA at h
  have hb := blk_le false s
  rcases lexes_of (s.length + 1) (s.drop (blk false s)) (blk false s) [] o p er (by rw [List.length_drop]; omega) h with ⟨h1, h2, ts, h3, h4, h5⟩ | ⟨h1, h2, h3, h4, h5⟩
  · rw [List.nil_append] at h3
    subst h3
    exact .inl ⟨h1, h2, h5 (Nat.zero_le _), h4⟩
  · rw [List.length_drop] at h4 h5
    refine .inr ⟨h2, h1, by omega, fun h => h5 (by rw [List.length_nil]; omega)⟩
theorem split_of {s : Bs} (hs : s.length ≤ 8192) {ts : List Tok} (h : Lexes (s.drop (blk false s)) (blk false s) ts) (hl : ts.length ≤ 4096) : splitD s = (ts, 0, 0) := by
  unfold splitD
  rw [if_neg (by omega)]
  unfold lexA
  rw [lexG_of h (s.length + 1) [] (by rw [List.length_drop]; omega) (by rw [List.length_nil]; omega), List.nil_append]
theorem lexes_txt {l : Bs} {i : Nat} {ts : List Tok} (h : Lexes l i ts) : ∀ t ∈ ts, t.txt.length ≤ l.length := by
  induction h with
  | done i => intro t ht; simp at ht
  | @tok l i ts hw hv h ih =>
    intro t ht
    rcases List.mem_cons.1 ht with rfl | ht
    · show (l.take (word l).2).length ≤ l.length
      rw [List.length_take]; omega
    · have := ih t ht
      rw [List.length_drop] at this; omega
theorem noA_tv (t : Tok) : noA (tv t) = tv (noAt t) := rfl
theorem noA_map {us os : List Tok} (h : us.map noAt = os.map noAt) : (us.map tv).map noA = (os.map tv).map noA := by
  have e : ∀ l : List Tok, (l.map tv).map noA = (l.map noAt).map tv := fun l => by simp only [List.map_map]; rfl
  rw [e, e, h]
theorem L_join (os : List Tok) : L (joinB (os.map tv)) = joinD (os.map (·.txt)) := by
  rw [L_joinB, List.map_map]; rfl
/-- the tokens of a text, joined and split again -/
theorem back_of {s : Bs} (hs : s.length ≤ 2250) {o : List Tok} (h : Lexes (s.drop (blk false s)) (blk false s) o) :
    ∃ us, splitD (joinD (o.map (·.txt))) = (us, 0, 0) ∧ us.map noAt = o.map noAt ∧ (joinD (o.map (·.txt))).length ≤ 8192 ∧ o.length ≤ 2250 := by
  obtain ⟨us, hu, he, hb⟩ := lexes_join h 0
  have hl := lexes_len h
  rw [List.length_drop] at hl
  have hle : us.length = o.length := by have := congrArg List.length he; simpa using this
  refine ⟨us, ?_, he, by omega, by omega⟩
  exact split_of (by omega) (by rw [hb, List.drop_zero]; exact hu) (by omega)
/-- the tokens of two texts -/
theorem both_of {a b : Bs} (ha : a.length ≤ 2000) (hb : b.length ≤ 2000) {o q : List Tok} (h1 : Lexes (a.drop (blk false a)) (blk false a) o) (h2 : Lexes (b.drop (blk false b)) (blk false b) q) :
    ∃ vs, splitD (a ++ 10 :: b) = (vs, 0, 0) ∧ vs.map noAt = o.map noAt ++ q.map noAt ∧ o.length ≤ 2000 ∧ q.length ≤ 2000 := by
  obtain ⟨k, vs, hv, he⟩ := both_on h1 h2
  have l1 := (lexes_len h1).1
  have l2 := (lexes_len h2).1
  rw [List.length_drop] at l1 l2
  rw [← J_blank] at hv
  obtain ⟨ws, hw, hx⟩ := lexes_move hv (blk false (a ++ 10 :: b))
  have e := hx.trans he
  have hl : ws.length = o.length + q.length := by have := congrArg List.length e; simpa using this
  have hlen : (a ++ 10 :: b).length ≤ 4001 := by rw [List.length_append, List.length_cons]; omega
  exact ⟨ws, split_of (by omega) hw (by omega), e, by omega, by omega⟩
theorem both_bad {a b : Bs} (ha : a.length ≤ 2000) (hb : b.length ≤ 2000) {o1 o2 o3 : List Tok} {p1 p2 p3 : Nat} {e1 e2 e3 : Int} (h1 : splitD a = (o1, p1, e1)) (h2 : splitD b = (o2, p2, e2)) (h3 : splitD (a ++ 10 :: b) = (o3, p3, e3)) (h : e1 ≠ 0 ∨ e2 ≠ 0) : e3 ≠ 0 := by
  have hlen : (a ++ 10 :: b).length ≤ 4001 := by rw [List.length_append, List.length_cons]; omega
  intro h0
  rcases split_cases (by omega) h3 with ⟨-, -, -, h4⟩ | ⟨h4, -⟩
  · rw [J_blank] at h4
    obtain ⟨⟨ts, g1⟩, j, us, g2⟩ := both_off _ _ b _ _ (Nat.le_refl _) h4
    obtain ⟨ts', g1', -⟩ := lexes_move g1 (blk false a)
    obtain ⟨us', g2', -⟩ := lexes_move g2 (blk false b)
    rcases h with h | h
    · rcases split_cases (by omega) h1 with ⟨h5, -⟩ | ⟨-, -, -, h5⟩
      · exact h h5
      · exact h5 (by omega) ⟨_, g1'⟩
    · rcases split_cases (by omega) h2 with ⟨h5, -⟩ | ⟨-, -, -, h5⟩
      · exact h h5
      · exact h5 (by omega) ⟨_, g2'⟩
  · exact h4 h0
theorem tok_sizes {s : Bs} (hs : s.length ≤ 8192) {o : List Tok} {i : Nat} {l : Bs} (hl : l.length ≤ s.length) (h : Lexes l i o) : ∀ t ∈ o.map tv, t.s.size ≤ 10000 := by
  intro t ht
  obtain ⟨x, hx, rfl⟩ := List.mem_map.1 ht
  have := lexes_txt h x hx
  show (⟨x.txt.toArray⟩ : ByteArray).size ≤ 10000
  have e : (⟨x.txt.toArray⟩ : ByteArray).size = x.txt.length := rfl
  omega
theorem L_both (a b : ByteArray) : L (a ++ ⟨#[10]⟩ ++ b) = L a ++ 10 :: L b := by
  rw [L_append, L_append]
  show L a ++ [10] ++ L b = _
  rw [List.append_assoc]; rfl
theorem both_same {vs os qs : List Tok} (h : vs.map noAt = os.map noAt ++ qs.map noAt) : (vs.map tv).map noA = ((os.map tv) ++ (qs.map tv)).map noA := by
  have e : ∀ l : List Tok, (l.map tv).map noA = (l.map noAt).map tv := fun l => by simp only [List.map_map]; rfl
  rw [List.map_append, e, e, e, h, List.map_append]
theorem places_cases {s : ByteArray} {o : List Lx.Tok} {p : Nat} {er : Int} (h : splitD (L s) = (o, p, er)) :
    (er ≠ 0 ∧ o = [] ∧ p < s.size) ∨ (er = 0 ∧ s.size ≤ 8192 ∧ o.length ≤ 4096 ∧ Places (L s) 0 o) := by
  by_cases hs : 8192 < s.size
  · unfold splitD at h
    rw [if_pos (by rw [L_len]; exact hs)] at h
    injection h with h1 h2
    injection h2 with h2 h3
    subst h1 h2 h3
    exact .inl ⟨by decide, rfl, by omega⟩
  · rcases split_cases (by rw [L_len]; omega) h with ⟨h1, h2, h3, h4⟩ | ⟨h1, h2, h3, -⟩
    · have hb := blk_le false (L s)
      refine .inr ⟨h1, by omega, h3, places_of h4 0 rfl (Nat.zero_le _) hb ?_⟩
      rw [List.drop_zero, Nat.sub_zero]
      exact blank_front _
    · rw [L_len] at h3
      exact .inl ⟨h1, h2, h3⟩
theorem drop_tok {os : List Lx.Tok} {k : Nat} (h : k < os.length) : ∃ x, os.drop k = x :: os.drop (k + 1) ∧ (os.map tv).getD k .nil = tv x := by
  refine ⟨os[k], List.drop_eq_getElem_cons h, ?_⟩
  simp [List.getD, h]
theorem tok_part {s : ByteArray} {i : Nat} {t : Bs} (h1 : i + t.length ≤ s.size) (h2 : ((L s).drop i).take t.length = t) (h3 : t ≠ []) :
    ∃ T : ByteArray, T = ⟨t.toArray⟩ ∧ T.size = t.length ∧ s.extract i (i + t.length) = T ∧ T.toList ≠ [] := by
  refine ⟨_, rfl, rfl, ?_, ?_⟩
  · apply L_inj
    rw [L_extract _ _ _ (by omega), show i + t.length - i = t.length by omega, h2]
    rfl
  · rw [ByteArray.toList_eq]; exact h3
end Go.Proofs.YtbkkalmdjcpgoaaDoor.Law05
