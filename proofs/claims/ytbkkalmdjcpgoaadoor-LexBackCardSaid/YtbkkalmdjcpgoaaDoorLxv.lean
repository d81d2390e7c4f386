/- What alive and blank of layer 5's law give back. -/
import Derived.Test.YtbkkalmdjcpgoaaDoorLxo
import Derived.Test.YtbkkalmdjcpgoaaDoorLxj
import Derived.Test.YtbkkalmdjcpgoaaDoorVa
namespace Go.Proofs.YtbkkalmdjcpgoaaDoor.Law05
open Go.RowKit
set_option linter.unusedVariables false
set_option linter.unusedSimpArgs false
open Go.Proofs.YtbkkalmdjcpgoaaDoor.Dig Go.Proofs.YtbkkalmdjcpgoaaDoor.Lx Go.Proofs.YtbkkalmdjcpgoaaDoor.Tk
open Go.Proofs.YtbkkalmdjcpgoaaDoor.Lex (ErrIn)

/-- the tokens of a slice's beginning -/
theorem toks_take {w : World} {A : Option Addr} {n c : Nat} {ts : List Tv} (h : Toks w (.slice A n c) ts) {k : Nat} (hk : k ≤ ts.length) : Toks w (.slice A k c) (ts.take k) := by
  have hl : (ts.take k).length = k := by rw [List.length_take]; omega
  obtain ⟨h1, h2⟩ := h.at_
  refine ⟨A, c, by rw [hl], by rw [hl]; omega, fun h0 => ?_⟩
  rw [hl] at h0
  obtain ⟨b, o, hb, -⟩ := h.el (i := 0) (by omega)
  refine ⟨b, o, hb, fun i hi => ?_⟩
  rw [hl] at hi
  obtain ⟨b', o', hb', h4⟩ := h.el (i := i) (by omega)
  rw [hb] at hb'
  injection hb' with hb'
  injection hb' with e1 e2
  subst e1 e2
  have e : (ts.take k).getD i .nil = ts.getD i .nil := by simp [List.getD, List.getElem?_take, hi]
  rw [e]; exact h4
/-- the two texts -/
abbrev txA : ByteArray := ⟨#[118, 97, 114, 32, 49, 46, 46, 53, 58, 32, 120, 59, 32, 37, 32, 97]⟩
abbrev txB : ByteArray := ⟨#[120, 32, 45, 32, 49]⟩
theorem splitA : splitD (L txA) = ([⟨1, [118, 97, 114], 0, 0⟩, ⟨2, [49], 1, 4⟩, ⟨3, [46, 46], 0, 5⟩, ⟨2, [53], 5, 7⟩, ⟨3, [58], 0, 8⟩, ⟨1, [120], 0, 10⟩, ⟨3, [59], 0, 11⟩], 0, 0) := by kernel_rfl
theorem splitB : splitD (L txB) = ([], 2, 5) := by kernel_rfl
theorem splitA_any (w : World) (he : ErrIn w) :
    Calls Tryd.prog 9 #[.string ⟨#[118, 97, 114, 32, 49, 46, 46, 53, 58, 32, 120, 59, 32, 37, 32, 97]⟩] w fun e w' => ∃ b o c, e = .returned (.tuple #[.slice (some ⟨b, o, none⟩) 7 c, .int .i64 0, .int .i64 0]) ∧ 7 ≤ c ∧ Tok4 w' b (o + 8) ⟨3, ⟨#[46, 46]⟩, 0, 5⟩ ∧ Tok4 w' b (o + 12) ⟨2, ⟨#[53]⟩, 5, 7⟩ ∧ Tok4 w' b (o + 20) ⟨1, ⟨#[120]⟩, 0, 10⟩ ∧ Toks w' (.slice (some ⟨b, o, none⟩) 2 c) [⟨1, ⟨#[118, 97, 114]⟩, 0, 0⟩, ⟨2, ⟨#[49]⟩, 1, 4⟩] ∧ Since w w' := by
  have h := Lex.split_any txA w he (by decide)
  rw [splitA] at h
  refine h.mono ?_
  rintro e w' ⟨A, c, rfl, ht, hs⟩
  obtain ⟨b, o, rfl, -⟩ := ht.el (i := 0) (by decide)
  have g := fun (i : Nat) (hi : i < 7) => (show ∃ b' o', some (⟨b, o, none⟩ : Addr) = some ⟨b', o', none⟩ ∧ _ from ht.el (i := i) hi)
  have at_ : ∀ (i : Nat) (hi : i < 7), Tok4 w' b (o + i * 4) _ := fun i hi => by
    obtain ⟨b', o', e1, h1⟩ := g i hi
    injection e1 with e1
    injection e1 with e1 e2
    subst e1 e2
    exact h1
  have h2 := toks_take ht (k := 2) (by decide)
  exact ⟨b, o, c, rfl, ht.at_.2, at_ 2 (by omega), at_ 3 (by omega), at_ 5 (by omega), h2, hs⟩
theorem splitB_any (w : World) (he : ErrIn w) :
    Calls Tryd.prog 9 #[.string ⟨#[120, 32, 45, 32, 49]⟩] w fun e w' => ∃ A c, e = .returned (.tuple #[.slice A 0 c, .int .i64 2, .int .i64 5]) ∧ Since w w' := by
  have h := Lex.split_any txB w he (by decide)
  rw [splitB] at h
  refine h.mono ?_
  rintro e w' ⟨A, c, rfl, ht, hs⟩
  exact ⟨A, c, rfl, hs⟩
theorem join2_any (A : Option Addr) (c : Nat) (w : World) (h : Toks w (.slice A 2 c) [⟨1, ⟨#[118, 97, 114]⟩, 0, 0⟩, ⟨2, ⟨#[49]⟩, 1, 4⟩]) :
    Calls Tryd.prog 13 #[.slice A 2 c] w fun e w' => e = .returned (.string ⟨#[118, 97, 114, 32, 49]⟩) ∧ Since w w' := by
  have k := Lex.join_any _ _ w h (by decide) (by intro t ht; simp only [List.mem_cons, List.not_mem_nil, or_false] at ht; rcases ht with rfl | rfl <;> decide)
  have e : joinB [⟨1, ⟨#[118, 97, 114]⟩, 0, 0⟩, ⟨2, ⟨#[49]⟩, 1, 4⟩] = ⟨#[118, 97, 114, 32, 49]⟩ := L_inj (by rw [L_joinB]; rfl)
  rwa [e] at k
set_option maxRecDepth 100000 in
set_option maxHeartbeats 2000000 in
theorem alive (w : World) (he : ErrIn w) : Calls Tryd.prog 8 #[] w fun e w' => e = .returned (.bool true) ∧ Since w w' := by
  have EI := Lib.hid he
  clear he
  go_enter Tryd.func8, Tryd.ntmps8
  go_wp2_with (first
    | (go_at_call 9; (with_reducible refine (splitA_any _ EI.out).mono ?_); rintro e w1 ⟨b, o, c, rfl, hc, t2, t3, t5, ht, h1⟩)
    | (go_at_call 9; (with_reducible refine (splitB_any _ (EI.out.since h1)).mono ?_); rintro e w2 ⟨A2, c2, rfl, h2⟩; obtain ⟨p0, p1, p2, p3⟩ := t2.since h2; obtain ⟨q0, q1, q2, q3⟩ := t3.since h2; obtain ⟨r0, r1, r2, r3⟩ := t5.since h2)
    | (go_at_call 13; (with_reducible refine (join2_any _ _ _ (ht.since h2)).mono ?_); rintro e w3 ⟨rfl, h3⟩))
  go_ret
  exact ⟨rfl, (h1.trans h2).trans h3⟩
theorem split_empty {s : Bs} (h : splitD s = ([], 0, 0)) : True := trivial
/-- is all of a text blank: the law's question, where it is -/
theorem blank_yes (s : ByteArray) (w : World) (hs : s.size ≤ 8192) (h : Blank (L s)) :
    Calls Tryd.prog 16 #[.string s] w fun e w' => e = .returned (.bool true) ∧ Since w w' := by
  have hk := Ref05.split_any s
  have e := split_blank h (by rw [L_len]; exact hs)
  have HS := Lib.hid (fun W => (show Calls Tryd.prog 10 #[.string s] W fun e w' => ∃ A c, e = .returned (.tuple #[.slice A 0 c, .int .i64 0, .int .i64 0]) ∧ Since W w' from by
    have h := hk W (by omega)
    rw [e] at h
    refine h.mono ?_
    rintro e w' ⟨A, c, rfl, ht, hs⟩
    exact ⟨A, c, rfl, hs⟩))
  clear hk e h
  go_enter Tryd.func16, Tryd.ntmps16
  go_wp2_with (go_at_call 10; (with_reducible refine (HS.out _).mono ?_); rintro e w1 ⟨A, c, rfl, h1⟩)
  go_ret
  exact ⟨rfl, h1⟩
end Go.Proofs.YtbkkalmdjcpgoaaDoor.Law05
