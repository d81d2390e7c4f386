/- A call of Split, in letters; Text and Split beside each other. -/
import Derived.Test.YtgcfemnigpjadaaDoorL6c
import Derived.Test.YtgcfemnigpjadaaDoorVk
namespace Go.Proofs.YtgcfemnigpjadaaDoor.Law06
open Go.RowKit
set_option linter.unusedVariables false
set_option linter.unusedSimpArgs false
open Go.Proofs.YtgcfemnigpjadaaDoor.Dig Go.Proofs.YtgcfemnigpjadaaDoor.Lx Go.Proofs.YtgcfemnigpjadaaDoor.Tk Go.Proofs.YtgcfemnigpjadaaDoor.Ps Go.Proofs.YtgcfemnigpjadaaDoor.Ti
open Go.Proofs.YtgcfemnigpjadaaDoor.Lex (ErrIn)

theorem splitD_len (s : Bs) : (splitD s).1.length ≤ 4096 := by
  unfold splitD
  split
  · exact Nat.zero_le _
  · unfold lexA
    obtain ⟨o, p, e, hq⟩ : ∃ o p e, lexG (s.length + 1) (s.drop (blk false s)) (blk false s) [] = (o, p, e) := ⟨_, _, _, rfl⟩
    rw [hq]
    rcases lexes_of (s.length + 1) (s.drop (blk false s)) (blk false s) [] o p e (by rw [List.length_drop]; omega) hq with ⟨-, -, ts, -, -, h⟩ | ⟨h, -⟩
    · exact h (Nat.zero_le _)
    · rw [h]; exact Nat.zero_le _
/-- a call of Split, in letters -/
theorem split_at (s : ByteArray) (hs : s.size ≤ 100000) {o : List Tok} {p n : Nat} {er : Int} (hr : splitD (L s) = (o, p, er)) (hn : o.length = n) (w : World) (he : ErrIn w) :
    Calls Tryd.prog 9 #[.string s] w fun e w' => ∃ A c, e = .returned (.tuple #[.slice A n c, .int .i64 (p : Int), .int .i64 er]) ∧ Toks w' (.slice A n c) (o.map tv) ∧ Since w w' := by
  have h := Lex.split_any s w he hs
  rw [hr] at h
  subst hn
  exact h
end Go.Proofs.YtgcfemnigpjadaaDoor.Law06
