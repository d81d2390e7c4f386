/- How many digits what the document says of layer 3 has. No code is spoken of. -/
import Derived.Test.YtbkkalmdjcpgoaaDoorZ3
namespace Go.Proofs.YtbkkalmdjcpgoaaDoor.Ref03
open Go.RowKit
set_option linter.unusedVariables false
open Go.Proofs.YtbkkalmdjcpgoaaDoor.Dig

theorem fitZ_len (z : Int) : (fitZ z).1.2.length ≤ 256 := by
  unfold fitZ; split
  · assumption
  · simp
theorem addZ_len (na : Bool) (xs : List Nat) (nb : Bool) (ys : List Nat) : (addZ na xs nb ys).1.2.length ≤ 256 := by
  unfold addZ; split
  · exact fitZ_len _
  · simp
theorem mulZ_len (na : Bool) (xs : List Nat) (nb : Bool) (ys : List Nat) : (mulZ na xs nb ys).1.2.length ≤ 256 := by
  unfold mulZ; split
  · exact fitZ_len _
  · simp
theorem negZ_len (na : Bool) {xs : List Nat} (dx : IsDig xs) : (negZ na xs).1.2.length ≤ xs.length := by
  unfold negZ; split
  · show (mag _).length ≤ _
    unfold mag; rw [Int.natAbs_neg, sval_abs]; exact digs_len_num dx
  · simp
end Go.Proofs.YtbkkalmdjcpgoaaDoor.Ref03
